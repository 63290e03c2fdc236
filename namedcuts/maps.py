"""MAPs of LAYOUTs, which tell of each CUT where it is, and RANGEs of CUTS that are side by side."""

from namedcuts.cuts import is_cut_of
from namedcuts.errors import BadCuts, BadPaper, BadQuestion
from namedcuts.frames import order_of
from namedcuts.kinds import is_tuple_of, is_word
from namedcuts.lattice import Lattice
from namedcuts.layouts import in_two, lots_of, see_layout
from namedcuts.terms import is_term


def map_of(frame, layout):
    """The MAP of a LAYOUT; BadQuestion of one that has none."""
    order = order_of(frame)
    see_layout(order, layout)
    return mapped(Lattice(order), layout)


def mapped(lattice, layout):
    """The MAP of a LAYOUT in a Lattice; BadQuestion of one that has none."""
    lots = lots_apart(lattice, layout)
    return tuple([_name_at(lots, number) for number in range(len(lattice.named))])


def lots_apart(lattice, layout):
    """A dict from the names of the PARTs to which CUTS are in them; BadQuestion of a LAYOUT that has no MAP."""
    lots = lots_of(lattice, layout)
    if in_two(list(lots.values())):
        raise BadQuestion("a CUT is in two PARTs")
    return lots


def _name_at(lots, number):
    """The name of the lot that a CUT is in, or None."""
    for name, which in lots.items():
        if which >> number & 1:
            return name
    return None


def route_alike(frame, one, other):
    """Whether two LAYOUTs ROUTE ALIKE."""
    _, first, second = _both(frame, one, other)
    return first == second


def _both(frame, one, other):
    """The Lattice of a FRAME, and the MAPs of two LAYOUTs."""
    order = order_of(frame)
    see_layout(order, one)
    see_layout(order, other)
    lattice = Lattice(order)
    return lattice, mapped(lattice, one), mapped(lattice, other)


def moved(frame, one, other):
    """What has MOVED from one LAYOUT to another one: triples (CUT, FROM, TO)."""
    lattice, first, second = _both(frame, one, other)
    return tuple([(cut, source, target) for cut, source, target in zip(lattice.named, first, second)
                  if source != target])


def on_range(frame, cuts):
    """A PAPER on whether there is a RANGE of some CUTs."""
    lattice, some = some_of(frame, cuts)
    if not some:
        return ("empty",)
    above = lattice.cuts_above(some)
    beyond = above & ~some
    between = lattice.cuts_above(beyond) & some
    if between:
        return ("three", *_three(lattice, some, lattice.first(between)))
    return ("range", lattice.normal(above), lattice.normal(beyond))


def some_of(frame, cuts):
    """The Lattice of a FRAME, and the set of some CUTs of it; BadCuts of what is no tuple of unlike ones."""
    order = order_of(frame)
    if not isinstance(cuts, tuple) or not all([is_cut_of(order, cut) for cut in cuts]):
        raise BadCuts(cuts)
    lattice = Lattice(order)
    if len(set(cuts)) != len(cuts):
        raise BadCuts(cuts)
    return lattice, sum([1 << number for number, cut in enumerate(lattice.named) if cut in cuts])


def _three(lattice, some, high):
    """Three CUTs, each within the next one, the last one this, of which the middle one alone is not among some."""
    within = [cut for cut in lattice.named if _is_within(cut, high)]
    inner = [cut for cut in within if some >> lattice.named.index(cut) & 1]
    pairs = [(low, middle) for low in inner for middle in within if middle not in inner and _is_within(low, middle)]
    return (*pairs[0], high)


def _is_within(cut, other):
    return all([name in other for name in cut])


def check_range(frame, cuts, paper):
    """The first word of a PAPER on whether there is a RANGE of some CUTs that holds; BadPaper of another one."""
    lattice, some = some_of(frame, cuts)
    word = _word_of(lattice.order, paper)
    if word is None:
        raise BadPaper("form")
    if word == "empty" and some:
        raise BadPaper("empty")
    if word == "range" and (not some or some != lattice.of_term(paper[1]) & ~lattice.of_term(paper[2])):
        raise BadPaper("range")
    if word == "three" and not _are_three(cuts, paper[1], paper[2], paper[3]):
        raise BadPaper("three")
    return word


def _word_of(order, paper):
    """The first word of what is a PAPER by its form, or None."""
    if is_tuple_of(paper, 1, 1) and is_word(paper[0], ("empty",)):
        return "empty"
    if is_tuple_of(paper, 3, 3) and is_word(paper[0], ("range",)):
        return "range" if all([is_term(order.names, term) for term in paper[1:]]) else None
    if is_tuple_of(paper, 4, 4) and is_word(paper[0], ("three",)):
        return "three" if all([is_cut_of(order, cut) for cut in paper[1:]]) else None
    return None


def _are_three(some, low, middle, high):
    if low not in some or high not in some or middle in some:
        return False
    return _is_within(low, middle) and _is_within(middle, high)

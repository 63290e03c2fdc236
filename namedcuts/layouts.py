"""LAYOUTs: PARTs between two TERMs each, whether they have each KEY just once, and whether they are a CHAIN."""

from namedcuts.chains import all_ahead, chain_or_ring
from namedcuts.cuts import is_cut_of, need_cut, need_number, need_world, world_with
from namedcuts.errors import BadLayout, BadPaper, BadQuestion
from namedcuts.frames import order_of
from namedcuts.kinds import is_name, is_tuple_of, is_whole, is_word
from namedcuts.lattice import Lattice, mask_of
from namedcuts.terms import has_in, is_key_at, is_term

MOST_PARTS = 16


def need_layout(frame, thing):
    """The thing itself; BadLayout of what is no LAYOUT of the FRAME."""
    see_layout(order_of(frame), thing)
    return thing


def see_layout(order, thing):
    """BadLayout of what is no LAYOUT of an Order."""
    if not is_tuple_of(thing, 0, MOST_PARTS):
        raise BadLayout("form", None)
    ahead = ""
    for number, part in enumerate(thing):
        _see_part(order, part, number, ahead)
        ahead = part[0]


def _see_part(order, thing, number, ahead):
    """BadLayout of what is no PART of an Order with a name that is greater than the one ahead."""
    if not is_tuple_of(thing, 4, 4) or not is_name(thing[0]) or not is_name(thing[3]):
        raise BadLayout("form", number)
    if thing[0] <= ahead:
        raise BadLayout("order", number)
    if not is_term(order.names, thing[1]):
        raise BadLayout("lo", number)
    if not is_term(order.names, thing[2]):
        raise BadLayout("hi", number)


def parts_at(frame, layout, world, key):
    """The ascending tuple of the names of all PARTs in which a KEY LIES in a WORLD."""
    order = order_of(frame)
    see_layout(order, layout)
    need_world(order, world)
    need_number(key)
    return _parts_with(order, layout, world, key)


def _parts_with(order, layout, world, key):
    return tuple([name for name, low, high, _ in layout
                  if is_key_at(order, world, key, low) and not is_key_at(order, world, key, high)])


def parts_of(frame, layout, cut):
    """The ascending tuple of the names of all PARTs that a CUT IS in."""
    order = order_of(frame)
    see_layout(order, layout)
    need_cut(order, cut)
    return _parts_among(layout, cut)


def _parts_among(layout, cut):
    return tuple([name for name, low, high, _ in layout if has_in(cut, low) and not has_in(cut, high)])


def lots_of(lattice, layout):
    """A dict from the names of the PARTs to which CUTS are in them."""
    return {name: lattice.of_term(low) & ~lattice.of_term(high) for name, low, high, _ in layout}


def in_two(lots):
    """Which CUTS are in two or more of some lots of them."""
    once = 0
    twice = 0
    for which in lots:
        twice |= once & which
        once |= which
    return twice


def not_in_one(lattice, lots):
    """Which CUTS are not in exactly one of some lots of them."""
    twice = in_two(lots)
    none = lattice.every
    for which in lots:
        none &= ~which
    return none | twice


def fault(frame, layout):
    """The FAULT of a LAYOUT: None, ("gap", CUT) or ("twice", CUT, PART, PART)."""
    lattice, wrong = _wrong(frame, layout)
    if not wrong:
        return None
    cut = lattice.first(wrong)
    names = _parts_among(layout, cut)
    return ("twice", cut, names[0], names[1]) if names else ("gap", cut)


def _wrong(frame, layout):
    """The Lattice of a FRAME, and which CUTS are not in exactly one PART of a LAYOUT."""
    order = order_of(frame)
    see_layout(order, layout)
    lattice = Lattice(order)
    return lattice, not_in_one(lattice, list(lots_of(lattice, layout).values()))


def is_right(frame, layout):
    """Whether a LAYOUT is RIGHT."""
    _, wrong = _wrong(frame, layout)
    return not wrong


def fault_paper(frame, layout):
    """A PAPER on a LAYOUT that is not RIGHT: a pair of a WORLD and a KEY; None of one that is."""
    lattice, wrong = _wrong(frame, layout)
    return world_with(lattice.order, lattice.first(wrong)) if wrong else None


def check_fault(frame, layout, paper):
    """What a PAPER on a LAYOUT that is not RIGHT shows, "gap" or "twice"; BadPaper of one that does not hold."""
    order = order_of(frame)
    see_layout(order, layout)
    if not is_tuple_of(paper, 2, 2) or not isinstance(paper[0], tuple) or not is_whole(paper[1]):
        raise BadPaper("form")
    if not order.fits(paper[0]):
        raise BadPaper("world")
    many = len(_parts_with(order, layout, paper[0], paper[1]))
    if many == 1:
        raise BadPaper("key")
    return "twice" if many else "gap"


def empty(frame, part):
    """Whether a PART is EMPTY "always", "sometimes" or "never"."""
    lattice, low, high = _bounds_of(frame, part)
    if not low & ~high:
        return "always"
    return "never" if lattice.is_ahead(low, high) else "sometimes"


def trim(frame, part):
    """The pair of the TRIM bounds of a PART."""
    lattice, low, high = _bounds_of(frame, part)
    lot = low & ~high
    above = lattice.cuts_above(lot)
    return lattice.normal(above), lattice.normal(above & ~lot)


def _bounds_of(frame, part):
    """The Lattice of a FRAME, and which CUTS HAVE each of the bounds of a PART."""
    order = order_of(frame)
    _see_part(order, part, 0, "")
    lattice = Lattice(order)
    return lattice, lattice.of_term(part[1]), lattice.of_term(part[2])


def is_chain(frame, layout):
    """Whether a LAYOUT is RIGHT and a CHAIN."""
    lattice, lots = _lots(frame, layout)
    if not_in_one(lattice, list(lots.values())):
        return False
    word, _ = chain_or_ring(lattice, lots)
    return word == "chain"


def _lots(frame, layout):
    """The Lattice of a FRAME, and which CUTS are in those PARTs of a LAYOUT that have some."""
    order = order_of(frame)
    see_layout(order, layout)
    lattice = Lattice(order)
    lots = lots_of(lattice, layout)
    return lattice, {name: lots[name] for name in lots if lots[name]}


def chain_paper(frame, layout):
    """A PAPER on whether a RIGHT LAYOUT is a CHAIN; BadQuestion of one that is not RIGHT."""
    lattice, lots = _lots(frame, layout)
    _need_right(lattice, lots)
    return chain_or_ring(lattice, lots)


def _need_right(lattice, lots):
    if not_in_one(lattice, list(lots.values())):
        raise BadQuestion("the LAYOUT is not RIGHT")


def check_chain(frame, layout, paper):
    """The first word of a PAPER on whether a RIGHT LAYOUT is a CHAIN; BadPaper of one that does not hold."""
    lattice, lots = _lots(frame, layout)
    if not _is_chain_paper(paper):
        raise BadPaper("form")
    word, shown = paper
    if word == "chain" and not _is_order(lattice, lots, shown):
        raise BadPaper("chain")
    if word == "ring" and not _is_round(lattice.order, layout, shown):
        raise BadPaper("ring")
    _need_right(lattice, lots)
    return word


def _is_chain_paper(paper):
    if not is_tuple_of(paper, 2, 2) or not isinstance(paper[1], tuple):
        return False
    if is_word(paper[0], ("chain",)):
        return all([isinstance(name, str) for name in paper[1]])
    return is_word(paper[0], ("ring",)) and all([_is_link(link) for link in paper[1]])


def _is_link(thing):
    if not is_tuple_of(thing, 3, 3):
        return False
    return isinstance(thing[0], str) and isinstance(thing[1], tuple) and isinstance(thing[2], tuple)


def _is_order(lattice, lots, names):
    """Whether some strings are the names of all PARTs with CUTS, none with a KEY behind one of a PART behind it."""
    if sorted(names) != sorted(lots):
        return False
    ahead = all_ahead(lattice, lots)
    return not any([other in ahead[one] for number, one in enumerate(names) for other in names[number:]])


def _is_round(order, layout, links):
    """Whether triples are a ROUND."""
    names = [name for name, _, _ in links]
    if len(names) < 2 or len(set(names)) != len(names):
        return False
    nexts = names[1:] + names[:1]
    return all([_holds_link(order, layout, link, behind) for link, behind in zip(links, nexts)])


def _holds_link(order, layout, link, behind):
    """Whether a CUT of a PART is within a CUT of the one behind."""
    name, cut, other = link
    if not is_cut_of(order, cut) or not is_cut_of(order, other):
        return False
    if mask_of(order, cut) & ~mask_of(order, other):
        return False
    return name in _parts_among(layout, cut) and behind in _parts_among(layout, other)

"""The LEAST LOOKS by which the PART of each CUT is found, and PAPERs on them; NAMEs that are ENOUGH."""

from namedcuts.cuts import are_names
from namedcuts.errors import BadNames, BadPaper, TooMany
from namedcuts.frames import MOST_NAMES, order_of
from namedcuts.kinds import is_tuple_of, is_whole, is_word
from namedcuts.lattice import Lattice, is_closed, mask_of, names_of
from namedcuts.layouts import see_layout
from namedcuts.maps import mapped
from namedcuts.states import States
from namedcuts.trees import depth_of, is_tree, mapped_by

MOST_ROWS = 900


def least_looks(frame, layout):
    """The LEAST LOOKS of a LAYOUT."""
    states = _states(frame, layout)
    return states.least_of(states.lattice.every)


def _states(frame, layout):
    lattice, things = _mapped_in(frame, layout)
    return States(lattice, things)


def _mapped_in(frame, layout):
    """The Lattice of a FRAME, and the MAP of a LAYOUT."""
    order = order_of(frame)
    see_layout(order, layout)
    lattice = Lattice(order)
    return lattice, mapped(lattice, layout)


def on_looks(frame, layout):
    """A PAPER on the LEAST LOOKS of a LAYOUT; TooMany of an ASKER with too many rows."""
    states = _states(frame, layout)
    rows = states.asker()
    if len(rows) > MOST_ROWS:
        raise TooMany(MOST_ROWS)
    return ("looks", states.tree_for(states.lattice.every), rows)


def check_looks(frame, layout, paper):
    """The LEAST LOOKS that a PAPER shows; BadPaper of one that does not hold."""
    order = order_of(frame)
    see_layout(order, layout)
    if not _is_looks_paper(order, paper):
        raise BadPaper("form")
    lattice = Lattice(order)
    things = mapped(lattice, layout)
    _, tree, rows = paper
    if mapped_by(lattice, tree) != things:
        raise BadPaper("tree")
    if not States(lattice, things).is_asker(rows):
        raise BadPaper("asker")
    if depth_of(tree) != rows[0][2]:
        raise BadPaper("depth")
    return rows[0][2]


def _is_looks_paper(order, paper):
    if not is_tuple_of(paper, 3, 3) or not is_word(paper[0], ("looks",)):
        return False
    return is_tree(order.names, paper[1]) and _is_asker(order, paper[2])


def _is_asker(order, thing):
    """Whether anything is an ASKER by its form."""
    if not is_tuple_of(thing, 1, MOST_ROWS) or not all([_is_row(order, row) for row in thing]):
        return False
    states = [row[:2] for row in thing]
    return states[0] == ((), ()) and all([one < other for one, other in zip(states, states[1:])])


def _is_row(order, thing):
    """Whether anything is a CLOSED STATE with a number behind it."""
    if not is_tuple_of(thing, 3, 3) or not is_whole(thing[2]) or not 0 <= thing[2] <= MOST_NAMES:
        return False
    if not are_names(order, thing[0]) or not are_names(order, thing[1]):
        return False
    yes = mask_of(order, thing[0])
    no = mask_of(order, thing[1])
    # What has with each NAME all to which a WAY leads from it leaves those that are a CUT.
    left = mask_of(order, order.names) & ~no
    return not yes & no and is_closed(order, yes) and is_closed(order, left)


def enough(frame, layout, names):
    """None if some NAMEs are ENOUGH, else two CUTs that have the same ones of them and unlike things."""
    order = order_of(frame)
    see_layout(order, layout)
    if not are_names(order, names):
        raise BadNames(names)
    lattice = Lattice(order)
    return _unlike(lattice.named, mapped(lattice, layout), names)


def _unlike(cuts, things, names):
    """Two CUTs with the same ones of some NAMEs and unlike things, or None."""
    first = {}
    for cut, thing in zip(cuts, things):
        kept = tuple([name for name in cut if name in names])
        if kept not in first:
            first[kept] = (cut, thing)
        elif first[kept][1] != thing:
            return (first[kept][0], cut)
    return None


def wanted_names(frame, layout):
    """The ascending tuple of the WANTED NAMEs."""
    lattice, things = _mapped_in(frame, layout)
    names = lattice.order.names
    return tuple([name for name in names
                  if _unlike(lattice.named, things, [other for other in names if other != name]) is not None])


def fewest_names(frame, layout):
    """As few NAMEs as are ENOUGH, the first ones of these."""
    lattice, things = _mapped_in(frame, layout)
    names = lattice.order.names
    lots = [names_of(lattice.order, mask) for mask in range(1 << len(names))]
    # All NAMEs together are ENOUGH, as each CUT has other ones.
    for some in sorted(lots, key=lambda lot: (len(lot), lot)):
        if _unlike(lattice.named, things, some) is None:
            return some
    return names

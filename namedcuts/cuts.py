"""CUTS of a FRAME, what a KEY can REACH, and ROWs of them, what the KEYs of a WORLD do."""

from namedcuts.errors import BadCut, BadNumber, BadWorld
from namedcuts.frames import order_of
from namedcuts.kinds import are_words, is_tuple_of, is_whole
from namedcuts.lattice import all_named, is_closed, is_step, mask_of, names_of


def cuts(frame):
    """The tuple of all CUTS, the fewest NAMEs first."""
    return tuple(all_named(order_of(frame)))


def is_cut(frame, thing):
    """Whether anything is a CUT of the FRAME."""
    return is_cut_of(order_of(frame), thing)


def is_cut_of(order, thing):
    """Whether anything is a CUT of an Order."""
    return are_names(order, thing) and is_closed(order, mask_of(order, thing))


def are_names(order, thing):
    """Whether anything is an ascending tuple of unlike NAMEs of an Order."""
    # What names_of tells ascends: so what is equal to it does, and has no NAME twice.
    return are_words(thing, order.names) and names_of(order, mask_of(order, thing)) == thing


def need_world(order, thing):
    """BadWorld of what is no WORLD."""
    if not order.fits(thing):
        raise BadWorld(thing)


def need_cut(order, thing):
    """BadCut of what is no CUT."""
    if not is_cut_of(order, thing):
        raise BadCut(thing)


def need_number(thing):
    """BadNumber of what is no integer."""
    if not is_whole(thing):
        raise BadNumber(thing)


def cut_of(frame, world, key):
    """The CUT of what a KEY REACHES in a WORLD."""
    order = order_of(frame)
    need_world(order, world)
    need_number(key)
    return reached(order, world, key)


def reached(order, world, key):
    """The NAMEs that a KEY REACHES in a WORLD."""
    return tuple([name for name, low in zip(order.names, world) if low <= key])


def world_of(frame, cut):
    """A pair of a WORLD and a KEY with this CUT."""
    order = order_of(frame)
    need_cut(order, cut)
    return world_with(order, cut)


def world_with(order, cut):
    """A pair of a WORLD and a KEY with a CUT of an Order."""
    many = len(order.names)
    # Levels are below the number of NAMEs; what is not in the CUT is put above all that is, and keeps its order.
    world = [level if name in cut else level + many for name, level in zip(order.names, order.levels())]
    return tuple(world), many - 1


def row_of(frame, world):
    """The ROW of a WORLD."""
    order = order_of(frame)
    need_world(order, world)
    values = sorted(set(world))
    return ((), *[reached(order, world, key) for key in values])


def is_row(frame, thing):
    """Whether anything is a ROW of the FRAME."""
    return is_row_among(order_of(frame), thing)


def is_row_among(order, thing):
    """Whether anything is a ROW of an Order."""
    if not is_tuple_of(thing, 2, len(order.names) + 1):
        return False
    if not all([is_cut_of(order, cut) for cut in thing]):
        return False
    masks = [mask_of(order, cut) for cut in thing]
    if thing[0] != () or thing[-1] != order.names:
        return False
    return all([is_step(order, one, other) for one, other in zip(masks, masks[1:])])


def world_along(frame, row):
    """A WORLD with this ROW; BadCut of what is no ROW."""
    order = order_of(frame)
    if not is_row_among(order, row):
        raise BadCut(row)
    return tuple([len([cut for cut in row if name not in cut]) for name in order.names])

"""BOOKs and SCRIPTs, and what a SCRIPT does in one WORLD."""

from namedcuts.cuts import need_world
from namedcuts.frames import order_of
from namedcuts.layouts import see_layout
from namedcuts.pieces import see_book, see_script
from namedcuts.runs import begun
from namedcuts.scales import Values
from namedcuts.steps import steps_of, top_scope


def need_book(frame, thing):
    """The thing itself; BadBook of what is no BOOK of the FRAME."""
    see_book(order_of(frame), thing)
    return thing


def need_script(frame, book, thing):
    """The thing itself; BadScript of what is no SCRIPT of the BOOK."""
    order = order_of(frame)
    see_script(order, see_book(order, book), thing)
    return thing


def run_in(frame, book, layout, script, world):
    """The OUTCOME of a SCRIPT in a WORLD."""
    return _ended(frame, book, layout, script, world).outcome()


def deeds_in(frame, book, layout, script, world):
    """The tuple of the DEEDs that are done in a WORLD, all put in."""
    run = _ended(frame, book, layout, script, world)
    return tuple([deed for deed, _ in run.past[1:]])


def _ended(frame, book, layout, script, world):
    """The Run of a SCRIPT in a WORLD, at its end."""
    order = order_of(frame)
    pieces = see_book(order, book)
    see_layout(order, layout)
    see_script(order, pieces, script)
    need_world(order, world)
    run = begun(Values(dict(zip(order.names, world))), layout, steps_of(pieces, script, top_scope()))
    run.go_on()
    return run

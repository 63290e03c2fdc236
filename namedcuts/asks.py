"""ASKs: which KEYs a question asks for, and the STRETCHES of them."""

from namedcuts.cuts import need_cut
from namedcuts.errors import BadAsk
from namedcuts.frames import order_of
from namedcuts.kinds import is_made_of, is_tuple_of, is_word
from namedcuts.lattice import Lattice
from namedcuts.terms import has_in, is_term, names_in

SIDES = ("from", "ahead")
WHOLES = ("all", "none")
LINKS = ("and", "or")
MOST_LINKED = 6
MOST_DEEP = 5
MOST_ASKS = 40


def need_ask(frame, thing):
    """The thing itself; BadAsk of what is no ASK of the FRAME."""
    see_ask(order_of(frame), thing)
    return thing


def see_ask(order, thing):
    """BadAsk of what is no ASK of an Order."""
    if not is_ask(order.names, thing):
        raise BadAsk(thing)


def is_ask(names, thing):
    """Whether anything is an ASK of some NAMES."""
    return is_made_of(thing, lambda part: _inner(names, part), MOST_DEEP, MOST_ASKS)


def _inner(names, thing):
    """The ASKs that stand in what is an ASK but for these, or None of what is none."""
    if is_tuple_of(thing, 1, 1) and is_word(thing[0], WHOLES):
        return ()
    if not is_tuple_of(thing, 2, 2):
        return None
    word, told = thing
    if is_word(word, ("not",)):
        return (told,)
    if is_word(word, LINKS) and is_tuple_of(told, 0, MOST_LINKED):
        return told
    return () if is_word(word, SIDES) and is_term(names, told) else None


def is_asked(frame, ask, cut):
    """Whether a CUT is ASKED by an ASK."""
    order = order_of(frame)
    see_ask(order, ask)
    need_cut(order, cut)
    return _asks(ask, cut)


def _asks(ask, cut):
    word = ask[0]
    if word in WHOLES:
        return word == "all"
    if word in SIDES:
        return has_in(cut, ask[1]) == (word == "from")
    if word == "not":
        return not _asks(ask[1], cut)
    many = [_asks(inner, cut) for inner in ask[1]]
    return all(many) if word == "and" else any(many)


def asked_cuts(frame, ask):
    """The tuple of the CUTs that are ASKED."""
    order = order_of(frame)
    see_ask(order, ask)
    lattice = Lattice(order)
    which = asked_in(lattice, ask)
    return tuple([cut for number, cut in enumerate(lattice.named) if which >> number & 1])


def asked_in(lattice, ask):
    """Which CUTs of a Lattice are ASKED."""
    word = ask[0]
    if word in WHOLES:
        return lattice.every if word == "all" else 0
    if word in SIDES:
        which = lattice.of_term(ask[1])
        return which if word == "from" else lattice.every & ~which
    if word == "not":
        return lattice.every & ~asked_in(lattice, ask[1])
    which = lattice.every if word == "and" else 0
    for inner in ask[1]:
        more = asked_in(lattice, inner)
        which = which & more if word == "and" else which | more
    return which


def asks_apart(frame, one, other):
    """None if two ASKs are ALIKE, else the first CUT that one alone ASKS."""
    order = order_of(frame)
    see_ask(order, one)
    see_ask(order, other)
    lattice = Lattice(order)
    unlike = asked_in(lattice, one) ^ asked_in(lattice, other)
    return lattice.first(unlike) if unlike else None


def stretches(frame, ask):
    """STRETCHES of an ASK, as few as any: a tuple of pairs of TERMs."""
    order = order_of(frame)
    see_ask(order, ask)
    return stretches_in(Lattice(order), ask)


def stretches_in(lattice, ask):
    """STRETCHES of an ASK in a Lattice."""
    asked = asked_in(lattice, ask)
    found = []
    begin = lattice.cuts_above(asked)
    while begin:
        end = lattice.cuts_above(begin & ~asked)
        found.append((lattice.normal(begin), lattice.normal(end)))
        begin = lattice.cuts_above(end & asked)
    return tuple(found)


def names_of_ask(ask):
    """The list of the NAMEs in an ASK, as often as they stand there."""
    word = ask[0]
    if word in WHOLES:
        return []
    if word in SIDES:
        return names_in(ask[1])
    many = (ask[1],) if word == "not" else ask[1]
    return [name for inner in many for name in names_of_ask(inner)]

"""TERMs of a FRAME: what they come to in a WORLD, among the CUTS, and in all WORLDs."""

from namedcuts.cuts import is_cut_of, need_cut, need_number, need_world, world_with
from namedcuts.errors import BadCut, BadPaper, BadTerm
from namedcuts.frames import order_of
from namedcuts.kinds import are_words, is_name, is_tuple_of, is_whole, is_word
from namedcuts.lattice import Lattice, mask_of

ENDS = ("-", "+")
CHOICES = ("least", "greatest")
EDGES = ("lo", "hi")
MOST_TERMS = 40
MOST_DEEP = 20
MOST_BOUNDS = 300


def need_term(frame, thing):
    """The thing itself; BadTerm of what is no TERM of the FRAME."""
    see_term(order_of(frame), thing)
    return thing


def see_term(order, thing):
    """BadTerm of what is no TERM of an Order."""
    if not is_term(order.names, thing):
        raise BadTerm(thing)


def is_term(names, thing):
    """Whether anything is a TERM of some NAMES."""
    return _is_term(names, thing, False)


def is_script_term(names, thing):
    """Whether anything is a script TERM of some NAMES: bounds of PARTs may stand for these."""
    return _is_term(names, thing, True)


def _is_term(names, thing, with_parts):
    waiting = [(thing, 1)]
    bounds = 0
    # What is too deep, or has too many NAMEs and ends, is left at once: it may have far more of them behind.
    while waiting and bounds <= MOST_BOUNDS:
        part, deep = waiting.pop()
        if deep > MOST_DEEP:
            return False
        if is_word(part, ENDS) or is_word(part, names) or (with_parts and _is_edge(part)):
            bounds += 1
        elif is_tuple_of(part, 2, MOST_TERMS + 1) and is_word(part[0], CHOICES):
            waiting.extend([(inner, deep + 1) for inner in part[1:]])
        else:
            return False
    return bounds <= MOST_BOUNDS


def _is_edge(thing):
    """Whether anything is the bound of a PART in a script TERM."""
    return is_tuple_of(thing, 2, 2) and is_word(thing[0], EDGES) and is_name(thing[1])


def names_in(term):
    """The list of the NAMEs in a TERM, as often as they stand there."""
    if isinstance(term, str):
        return [] if term in ENDS else [term]
    return [name for inner in term[1:] for name in names_in(inner)]


def value(frame, world, term):
    """The value of a TERM in a WORLD: an integer, "-" or "+"."""
    order = order_of(frame)
    need_world(order, world)
    see_term(order, term)
    return value_in(dict(zip(order.names, world)), term)


def value_in(values, term):
    """The value of a TERM by those of its NAMEs."""
    if isinstance(term, str):
        return term if term in ENDS else values[term]
    many = [value_in(values, part) for part in term[1:]]
    if term[0] == "least":
        return min(many, key=_rank)
    return max(many, key=_rank)


def _rank(worth):
    """A pair by which values are ordered: "-" is less than all integers, "+" greater."""
    if isinstance(worth, str):
        return (-1, 0) if worth == "-" else (1, 0)
    return (0, worth)


def is_at(frame, world, key, term):
    """Whether a KEY is AT a TERM in a WORLD."""
    order = order_of(frame)
    need_world(order, world)
    need_number(key)
    see_term(order, term)
    return is_key_at(order, world, key, term)


def is_key_at(order, world, key, term):
    """Whether a KEY is AT a TERM in a WORLD of an Order."""
    low = value_in(dict(zip(order.names, world)), term)
    return low == "-" if isinstance(low, str) else low <= key


def has(frame, cut, term):
    """Whether a CUT HAS a TERM."""
    order = order_of(frame)
    need_cut(order, cut)
    see_term(order, term)
    return has_in(cut, term)


def has_in(cut, term):
    """Whether a tuple of NAMEs HAS a TERM."""
    if isinstance(term, str):
        return term == "-" or term in cut
    many = [has_in(cut, part) for part in term[1:]]
    return any(many) if term[0] == "least" else all(many)


def normal(frame, term):
    """The NORMAL form of a TERM."""
    lattice, which = _placed(frame, term)
    return lattice.normal(which)


def leasts(frame, term):
    """LEASTS of a TERM: an ascending tuple of ascending tuples of NAMEs."""
    lattice, which = _placed(frame, term)
    return lattice.leasts(which)


def greatests(frame, term):
    """GREATESTS of a TERM: an ascending tuple of ascending tuples of NAMEs."""
    lattice, which = _placed(frame, term)
    return lattice.greatests(which)


def _placed(frame, term):
    """The Lattice of a FRAME, and which CUTS HAVE a TERM."""
    order = order_of(frame)
    see_term(order, term)
    lattice = Lattice(order)
    return lattice, lattice.of_term(term)


def _placed_both(frame, one, other):
    """The Lattice of a FRAME, and which CUTS HAVE each of two TERMs."""
    order = order_of(frame)
    see_term(order, one)
    see_term(order, other)
    lattice = Lattice(order)
    return lattice, lattice.of_term(one), lattice.of_term(other)


def upto(frame, one, other):
    """Whether one TERM is UPTO the other."""
    _, first, second = _placed_both(frame, one, other)
    return not second & ~first


def ahead(frame, one, other):
    """Whether one TERM is AHEAD of the other."""
    lattice, first, second = _placed_both(frame, one, other)
    return lattice.is_ahead(first, second)


def same(frame, one, other):
    """Whether two TERMs are SAME."""
    _, first, second = _placed_both(frame, one, other)
    return first == second


def term_from(frame, some):
    """The NORMAL TERM that just those CUTS HAVE that have one of some CUTS within."""
    order = order_of(frame)
    if not isinstance(some, tuple) or not all([is_cut_of(order, cut) for cut in some]):
        raise BadCut(some)
    lattice = Lattice(order)
    which = 0
    for cut in some:
        which |= lattice.cuts_with(mask_of(order, cut))
    return lattice.normal(which)


def upto_paper(frame, one, other):
    """A PAPER on whether one TERM is UPTO the other."""
    lattice, first, second = _placed_both(frame, one, other)
    for number, cut in enumerate(lattice.named):
        if (second & ~first) >> number & 1:
            return ("world", *world_with(lattice.order, cut))
    pairs = _pairs(lattice, first, second)
    return ("ways", tuple([_way_between(lattice.order, lows, highs) for lows, highs in pairs]))


def _pairs(lattice, first, second):
    """The pairs of LEASTS of what some CUTS HAVE and GREATESTS of what others HAVE, in the order of a PAPER."""
    ends = lattice.greatests(second)
    return [(lows, highs) for lows in lattice.leasts(first) for highs in ends]


def _way_between(order, lows, highs):
    """A WAY from some of the first NAMEs to some of the others."""
    found = [(low, high) for low in lows for high in highs if order.leads(low, high)]
    return order.shortest(found[0][0], found[0][1], False)


def check_upto(frame, one, other, paper):
    """The first word of a PAPER on whether one TERM is UPTO the other that holds; BadPaper of another one."""
    lattice, first, second = _placed_both(frame, one, other)
    order = lattice.order
    if _is_ways_paper(order, paper):
        if not _are_ways(order, _pairs(lattice, first, second), paper[1]):
            raise BadPaper("ways")
    elif _is_world_paper(paper):
        if not _shows_behind(order, one, other, paper[1], paper[2]):
            raise BadPaper("world")
    else:
        raise BadPaper("form")
    return paper[0]


def _is_ways_paper(order, paper):
    if not is_tuple_of(paper, 2, 2) or not is_word(paper[0], ("ways",)) or not isinstance(paper[1], tuple):
        return False
    return all([are_words(way, order.names) for way in paper[1]])


def _is_world_paper(paper):
    if not is_tuple_of(paper, 3, 3) or not is_word(paper[0], ("world",)):
        return False
    return isinstance(paper[1], tuple) and is_whole(paper[2])


def _are_ways(order, pairs, ways):
    """Whether there is for each of the pairs just one WAY from a NAME of its first to one of its second."""
    if len(pairs) != len(ways) or not all([order.is_way(way) for way in ways]):
        return False
    return all([way[0] in lows and way[-1] in highs for (lows, highs), way in zip(pairs, ways)])


def _shows_behind(order, one, other, world, key):
    """Whether a KEY is AT the other TERM, and not AT the one, in what is a WORLD."""
    if not order.fits(world):
        return False
    return is_key_at(order, world, key, other) and not is_key_at(order, world, key, one)

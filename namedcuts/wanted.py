"""The FACTS that a LAYOUT wants, so that it is RIGHT."""

from namedcuts.errors import BadQuestion, TooMany
from namedcuts.frames import MOST_FACTS, order_of
from namedcuts.lattice import Lattice
from namedcuts.layouts import lots_of, not_in_one, see_layout

MOST_WANTING = 5


def wanted_facts(frame, layout):
    """The FACTS WANTED by a LAYOUT, or None if no FACTs make it RIGHT."""
    order = order_of(frame)
    see_layout(order, layout)
    if len(order.names) > MOST_WANTING:
        raise TooMany(MOST_WANTING)
    lattice = Lattice(order)
    facts = _fewest(lattice, not_in_one(lattice, list(lots_of(lattice, layout).values())))
    if facts is not None and len(order.facts) + len(facts) > MOST_FACTS:
        raise BadQuestion("the FRAME would have too many FACTS")
    return facts


def _fewest(lattice, wrong):
    """The first of the fewest FACTs "upto" by which none of these CUTS is one any more, or None.

    What FACTs tell hangs on the CUTS that are left alone, and of these there are not many. Of FACTs that leave the
    same ones only the first are gone on with: a FACT more leaves their order as it is."""
    barred = _barred(lattice)
    seen = {lattice.every: True}
    level = {lattice.every: ()}
    while level:
        right = [facts for left, facts in level.items() if not left & wrong]
        if right:
            return min(right)
        level = _next_level(lattice, barred, seen, level)
    return None


def _barred(lattice):
    """A dict from the FACTs "upto" to which CUTS there are not with them: those that have B, but not A."""
    had = lattice.had
    return {(one, "upto", other): had[other] & ~had[one] for one in had for other in had if one != other}


def _next_level(lattice, barred, seen, level):
    """The CUTS that can be left by one FACT more, but those that were seen, each with the first FACTs that do so."""
    found = {}
    for left, facts in level.items():
        for fact, gone in barred.items():
            less = left & ~gone
            if less in seen or not _has_worlds(lattice, less):
                continue
            more = tuple(sorted([*facts, fact]))
            found[less] = min(more, found.get(less, more))
    for less in found:
        seen[less] = True
    return found


def _has_worlds(lattice, left):
    """Whether there are WORLDs when these CUTS are left: for each FACT "ahead" one parts its NAMEs."""
    had = lattice.had
    return all([left & had[one] & ~had[other] for (one, other), strict in lattice.order.steps.items() if strict])

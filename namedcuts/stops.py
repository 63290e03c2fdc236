"""What stops a DEED that is done by true values, and what stands in its TERMs."""

from namedcuts.deeds import questions
from namedcuts.layouts import MOST_PARTS
from namedcuts.pieces import FORMS, is_formed
from namedcuts.terms import EDGES, ENDS

SORTS = ("split", "join", "shift", "move", "call", "off", "on")

# How many names of PARTs that are there stand first; which names are new; which of the first ones may be among these.
WANTED = {"split": 1, "join": 2, "shift": 2, "move": 1, "call": 1, "off": 1, "on": 0}
GIVEN = {"split": (3, 4), "join": (3,), "shift": (), "move": (), "call": (2,), "off": (), "on": (1,)}
TAKEN = {"split": 1, "join": 2, "shift": 0, "move": 0, "call": 0, "off": 0, "on": 0}


def is_deed(names, thing):
    """Whether anything is a DEED of the SORTS by some NAMES."""
    return is_formed(names, thing) and thing[0] in SORTS


def terms_of(deed):
    """The list of the TERMs of a DEED."""
    return [thing for sort, thing in zip(FORMS[deed[0]], deed[1:]) if sort == "term"]


def bounds_in(term):
    """The list of the NAMEs in a script TERM, from left to right."""
    if isinstance(term, str):
        return [] if term in ENDS else [term]
    if term[0] in EDGES:
        return []
    return [name for inner in term[1:] for name in bounds_in(inner)]


def _parts_in(term):
    """The list of the names of PARTs in a script TERM."""
    if isinstance(term, str):
        return []
    if term[0] in EDGES:
        return [term[1]]
    return [part for inner in term[1:] for part in _parts_in(inner)]


def stop_ahead(parts, deed):
    """The word why a DEED can't be done on PARTs, but for what has to be compared, or None."""
    word = deed[0]
    wanted = list(deed[1:1 + WANTED[word]])
    named = wanted + [part for term in terms_of(deed) for part in _parts_in(term)]
    if any([part not in parts for part in named]) or len(set(wanted)) < len(wanted):
        return "part"
    given = [deed[at] for at in GIVEN[word]]
    free = wanted[:TAKEN[word]]
    if any([part in parts and part not in free for part in given]) or len(set(given)) < len(given):
        return "name"
    return "many" if word in ("split", "on") and len(parts) == MOST_PARTS else None


def is_apart(scale, parts, deed, worths):
    """Whether two PARTs do not MEET that a DEED wants to."""
    return not all([scale.is_upto(one, other) for one, other in questions(parts, deed, worths)])

"""MANNERs: how the mover moves rows, and how writers and questions are let in meanwhile."""

from namedcuts.errors import BadManner
from namedcuts.kinds import is_tuple_of, is_word

DOORS = ("any", "own", "now")
LEADS = ("on", "off")
HOWS = ("list", "whole", "next")
AGAINS = ("never", "own", "edition")
WORDS = ("seal", "hold", "free", "copy", "catch", "both", "tell", "point", "drain", "drop")
MOST_ACTS = 8


def need_manner(thing):
    """The thing itself; BadManner of what is no MANNER."""
    if not is_tuple_of(thing, 5, 5):
        raise BadManner(())
    for number, words in enumerate((DOORS, LEADS, HOWS, AGAINS)):
        if not is_word(thing[number], words):
            raise BadManner((number,))
    _see_acts(thing[4])
    return thing


def _see_acts(acts):
    if not is_tuple_of(acts, 0, MOST_ACTS):
        raise BadManner((4,))
    ahead = []
    for number, word in enumerate(acts):
        if not is_word(word, WORDS) or ahead.count(word) == _most_of(word):
            raise BadManner((4, number))
        ahead.append(word)
    if "point" not in ahead:
        raise BadManner((4,))


def _most_of(word):
    """How often a word may stand among ACTS."""
    return 1 if word == "point" else 2

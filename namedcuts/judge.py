"""A JUDGE of CLAIMs by PAPERs, and a LEDGER that keeps those that were judged."""

from namedcuts.asks import need_ask
from namedcuts.errors import BadClaim, BadPaper, BadPart, BadQuestion, CutError
from namedcuts.frames import MOST_NAMES, need_frame, with_facts
from namedcuts.kinds import is_tuple_of, is_word
from namedcuts.layouts import need_layout
from namedcuts.live import need_whole
from namedcuts.lives import MOST_LEAST, check_life
from namedcuts.looks import check_looks
from namedcuts.maps import check_range, some_of
from namedcuts.planrules import check_rule, need_rule, rule_fault
from namedcuts.reads import check_always, is_part_of
from namedcuts.rolling import need_rolling
from namedcuts.terms import check_upto, need_term

WORDS = ("upto", "range", "looks", "always", "sharp", "safe", "life")
# How many things stand behind each of these words.
SIZES = (3, 2, 3, 4, 4, 4, 2)
RULED = ("sharp", "safe")


def judged(claim, paper):
    """Whether a CLAIM is true, by a PAPER that shows it."""
    _see_claim(claim)
    word, *told = claim
    if word in RULED:
        return _judged_rule(word, told, paper)
    if word == "upto":
        return check_upto(told[0], told[1], told[2], paper) == "ways"
    if word == "range":
        return check_range(told[0], told[1], paper) == "range"
    if word == "looks":
        return check_looks(told[0], told[1], paper) == told[2]
    if word == "always":
        return check_always(told[0], told[1], told[2], told[3], paper) == "closed"
    return check_life(told[0], told[1], paper) == "lot"


def _judged_rule(word, told, paper):
    """Whether a RULE is SHARP or SAFE. That it is so is shown by nothing but going through all."""
    frame, layout, ask, rule = told
    if is_tuple_of(paper, 1, 1) and is_word(paper[0], ("holds",)):
        if rule_fault(frame, layout, ask, rule, word == "sharp") is not None:
            raise BadPaper("holds")
        return True
    found = check_rule(frame, layout, ask, rule, paper)
    if word == "safe" and found == "idle":
        raise BadPaper("idle")
    return False


def _see_claim(thing):
    """BadClaim of what is no CLAIM."""
    if not is_tuple_of(thing, 3, 5) or not is_word(thing[0], WORDS):
        raise BadClaim(thing)
    word, *told = thing
    if len(told) != SIZES[WORDS.index(word)]:
        raise BadClaim(thing)
    try:
        _see_told(word, told)
    except CutError:
        raise BadClaim(thing) from None


def _see_told(word, told):
    """Refuses what cannot stand behind the word of a CLAIM."""
    if word == "life":
        need_rolling(told[0])
        need_whole(told[1], 1, MOST_LEAST)
    elif word == "upto":
        need_term(told[0], told[1])
        need_term(told[0], told[2])
    elif word == "range":
        some_of(told[0], told[1])
    else:
        _see_on_layout(word, told)


def _see_on_layout(word, told):
    frame = told[0]
    need_layout(frame, told[1])
    if word == "looks":
        need_whole(told[2], 0, MOST_NAMES)
        return
    need_ask(frame, told[2])
    if word in RULED:
        need_rule(frame, told[3])
    elif not is_part_of(told[1], told[3]):
        raise BadPart(told[3])


class Ledger:
    """A LEDGER of a FRAME: entries are triples of a CLAIM, a PAPER, and whether it shows that the CLAIM is true."""

    def __init__(self, frame):
        self.frame = need_frame(frame)
        self.entries = []

    @property
    def claims(self):
        """The tuple of pairs of a CLAIM and whether it is true."""
        return tuple([(claim, told) for claim, _, told in self.entries])

    def enter(self, claim, paper):
        """Keeps a CLAIM. Whether it is true, by a PAPER."""
        told = judged(claim, paper)
        if claim[0] != "life" and claim[1] != self.frame:
            raise BadQuestion("the CLAIM has another FRAME")
        self.entries.append((claim, paper, told))
        return told

    def tell(self, fact):
        """Puts a FACT behind the others. The ascending tuple of the numbers of the CLAIMs that are left out by that."""
        frame = with_facts(self.frame, (fact,))
        new = [(_in_frame(frame, claim), paper, told) for claim, paper, told in self.entries]
        stays = [_is_still(claim, paper, told) for claim, paper, told in new]
        self.frame = frame
        self.entries = [entry for entry, is_kept in zip(new, stays) if is_kept]
        return tuple([number for number, is_kept in enumerate(stays) if not is_kept])


def _in_frame(frame, claim):
    """The CLAIM in another FRAME; one of a ROLLING has none."""
    return claim if claim[0] == "life" else (claim[0], frame, *claim[2:])


def _is_still(claim, paper, told):
    """Whether a PAPER shows the same of a CLAIM as it did."""
    try:
        return judged(claim, paper) == told
    except CutError:
        return False

"""The errors of namedcuts, each with what it is made with under the names that the document tells.

None of them writes this into a text: it may be anything, also what cannot be written."""


class CutError(ValueError):
    """Something is refused: a text tells what."""


class BadFrame(CutError):
    """This is no FRAME: its part, and the number in it."""

    def __init__(self, part, number):
        self.part = part
        self.number = number


class BadLayout(CutError):
    """This is no LAYOUT: what of it, and the number of its PART."""

    def __init__(self, part, number):
        self.part = part
        self.number = number


class BadOrder(CutError):
    """No WORLD has the values of these two NAMEs."""

    def __init__(self, one, other):
        self.one = one
        self.other = other


class BadText(CutError):
    """This text cannot be read: its line, and the place in it."""

    def __init__(self, line, place):
        self.line = line
        self.place = place


class BadBook(CutError):
    """This is no BOOK: the place in it."""

    def __init__(self, place):
        self.place = place


class BadScript(CutError):
    """This is no SCRIPT: the place in it."""

    def __init__(self, place):
        self.place = place


class BadManner(CutError):
    """This is no MANNER: the place in it."""

    def __init__(self, place):
        self.place = place


class BadPath(CutError):
    """This is no PATH: the place in it."""

    def __init__(self, place):
        self.place = place


class BadWeaving(CutError):
    """This is no WEAVING: the number of the EVENT."""

    def __init__(self, number):
        self.number = number


class BadRolling(CutError):
    """This is no ROLLING: the number of the LINE."""

    def __init__(self, number):
        self.number = number


class BadJournal(CutError):
    """This is no JOURNAL: the number of the thing in it."""

    def __init__(self, number):
        self.number = number


class BadPaper(CutError):
    """This PAPER does not hold: what of it."""

    def __init__(self, part):
        self.part = part


class Stopped(CutError):
    """This DEED can't be done: the word why."""

    def __init__(self, word):
        self.word = word


class BadName(CutError):
    """This is no NAME of the FRAME."""

    def __init__(self, given):
        self.given = given


class BadNames(CutError):
    """These are no NAMEs of the FRAME, ascending."""

    def __init__(self, given):
        self.given = given


class BadWorld(CutError):
    """This is no WORLD of the FRAME."""

    def __init__(self, given):
        self.given = given


class BadCut(CutError):
    """This is no CUT of the FRAME."""

    def __init__(self, given):
        self.given = given


class BadCuts(CutError):
    """These are no unlike CUTS of the FRAME."""

    def __init__(self, given):
        self.given = given


class BadTerm(CutError):
    """This is no TERM of the FRAME."""

    def __init__(self, given):
        self.given = given


class BadNumber(CutError):
    """This is no integer that is wanted."""

    def __init__(self, given):
        self.given = given


class BadPart(CutError):
    """This is no PART that is there."""

    def __init__(self, given):
        self.given = given


class BadTree(CutError):
    """This is no TREE of the FRAME."""

    def __init__(self, given):
        self.given = given


class BadAsk(CutError):
    """This is no ASK of the FRAME."""

    def __init__(self, given):
        self.given = given


class BadRule(CutError):
    """This is no RULE of the FRAME."""

    def __init__(self, given):
        self.given = given


class BadCondition(CutError):
    """This is no CONDITION of the FRAME."""

    def __init__(self, given):
        self.given = given


class BadDeed(CutError):
    """This is no DEED that is wanted."""

    def __init__(self, given):
        self.given = given


class BadStanding(CutError):
    """This is no STANDING by its form."""

    def __init__(self, given):
        self.given = given


class BadEvent(CutError):
    """This is no EVENT that can come there."""

    def __init__(self, given):
        self.given = given


class BadThing(CutError):
    """This is no thing of a SHELF."""

    def __init__(self, given):
        self.given = given


class BadSort(CutError):
    """This thing is of another SORT."""

    def __init__(self, given):
        self.given = given


class BadClaim(CutError):
    """This is no CLAIM."""

    def __init__(self, given):
        self.given = given


class Unbound(CutError):
    """This NAME has no value."""

    def __init__(self, given):
        self.given = given


class Bound(CutError):
    """This NAME has a value."""

    def __init__(self, given):
        self.given = given


class Overlaps(CutError):
    """Some KEY of the new PART lies in this one."""

    def __init__(self, given):
        self.given = given


class Outside(CutError):
    """This KEY would not lie in the new PART."""

    def __init__(self, given):
        self.given = given


class NoPart(CutError):
    """This KEY lies in no PART."""

    def __init__(self, given):
        self.given = given


class Late(CutError):
    """The part of this KEY has been taken off."""

    def __init__(self, given):
        self.given = given


class Parts(CutError):
    """What stands there and the new thing do not AGREE: where they part."""

    def __init__(self, given):
        self.given = given


class Leans(CutError):
    """What this name has leans on the FACT."""

    def __init__(self, given):
        self.given = given


class BadQuestion(CutError):
    """This cannot be asked: a text tells why."""


class TooMany(OverflowError):
    """There are more than so many."""

    def __init__(self, most):
        self.most = most


class Missing(KeyError):
    """This is not there."""

    def __init__(self, given):
        self.given = given

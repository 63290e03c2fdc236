"""Lines of texts: read sign by sign, so that BadText tells the first one with which nothing goes on; and written."""

from namedcuts.errors import BadText
from namedcuts.kinds import LETTERS
from namedcuts.pieces import FORMS
from namedcuts.terms import CHOICES, EDGES, ENDS, MOST_DEEP

FIGURES = "0123456789"
MOST_LETTERS = 6
LONGEST = "greatest"

# What stands ahead of each thing of a DEED; an "if" has its SCRIPTs in lines of their own.
BETWEEN = {
    "split": ("", " at ", " as ", " "),
    "join": ("", " ", " as "),
    "shift": ("", " ", " to "),
    "move": ("", " to "),
    "call": ("", " "),
    "off": ("",),
    "on": ("", " from ", " to ", " in "),
    "need": ("", " upto "),
    "if": ("", " upto "),
}


class Line:
    """A line with a number, read up to a place."""

    def __init__(self, text, number):
        self.text = text
        self.number = number
        self.at = 0

    def _sign(self):
        """The next sign, none at the end."""
        return self.text[self.at:self.at + 1]

    def _is_next(self, signs):
        """Whether the next sign is one of some."""
        return self.at < len(self.text) and self._sign() in signs

    def expect(self, words):
        """Reads just these signs."""
        for sign in words:
            if self._sign() != sign:
                raise BadText(self.number, self.at)
            self.at += 1

    def choose(self, words):
        """Reads one of some words, none of which begins with another one. It."""
        found = ""
        while found not in words:
            more = found + self._sign()
            if more == found or not any([word.startswith(more) for word in words]):
                raise BadText(self.number, self.at)
            found = more
            self.at += 1
        return found

    def end(self):
        """Sees that nothing stands behind what was read."""
        if self.at < len(self.text):
            raise BadText(self.number, self.at)

    def rest(self):
        """Reads all that stands behind. It."""
        begin = self.at
        self.at = len(self.text)
        return self.text[begin:]

    def name(self):
        """Reads a name. It."""
        begin = self.at
        while self.at - begin < MOST_LETTERS and self._is_next(LETTERS):
            self.at += 1
        return self._read_from(begin)

    def _read_from(self, begin):
        """What was read from a place on; BadText of nothing."""
        if self.at == begin:
            raise BadText(self.number, self.at)
        return self.text[begin:self.at]

    def figures(self, most):
        """Reads a number with at most so many figures, without zeros ahead. It."""
        begin = self.at
        while self.at - begin < most and self._is_next(FIGURES) and self.text[begin:self.at] != "0":
            self.at += 1
        return int(self._read_from(begin))

    def whole(self, most):
        """Reads a number that may be below 0. It."""
        if not self._is_next("-"):
            return self.figures(most)
        self.at += 1
        if self._is_next("0"):
            raise BadText(self.number, self.at)
        return -self.figures(most)

    def term(self, with_edges):
        """Reads a TERM, or a script TERM. It."""
        return self._term(with_edges, 1)

    def _term(self, with_edges, deep):
        if self._is_next(ENDS):
            self.at += 1
            return self.text[self.at - 1]
        word = self._word(deep)
        if not self._is_next("("):
            # Seven letters or eight are on the way to the longest word, and no NAME.
            if len(word) > MOST_LETTERS:
                raise BadText(self.number, self.at)
            return word
        if word in CHOICES and deep < MOST_DEEP:
            return (word, *self._terms(with_edges, deep + 1))
        if with_edges and word in EDGES:
            return (word, self._part())
        raise BadText(self.number, self.at)

    def _word(self, deep):
        """Reads letters, as long as they can be a NAME or the word of a deeper TERM. They."""
        begin = self.at
        while self._is_next(LETTERS) and self._can_have(self.text[begin:self.at + 1], deep):
            self.at += 1
        return self._read_from(begin)

    def _can_have(self, word, deep):
        return len(word) <= MOST_LETTERS or (deep < MOST_DEEP and LONGEST.startswith(word))

    def _terms(self, with_edges, deep):
        self.expect("(")
        terms = [self._term(with_edges, deep)]
        while self.choose((", ", ")")) == ", ":
            terms.append(self._term(with_edges, deep))
        return terms

    def _part(self):
        self.expect("(")
        part = self.name()
        self.expect(")")
        return part


def deed_in(line, word):
    """Reads a DEED behind its word and a space, an "if" without its SCRIPTs. It."""
    things = []
    for ahead, sort in zip(BETWEEN[word], FORMS[word]):
        line.expect(ahead)
        things.append(line.term(True) if sort == "term" else line.name())
    return (word, *things)


def term_words(term):
    """The text of a TERM, or of a script TERM."""
    if isinstance(term, str):
        return term
    inner = ", ".join([term_words(part) for part in term[1:]])
    return f"{term[0]}({inner})"


def deed_words(deed):
    """The line of a DEED, of an "if" the first one."""
    told = list(zip(BETWEEN[deed[0]], FORMS[deed[0]], deed[1:]))
    words = "".join([ahead + (term_words(thing) if sort == "term" else thing) for ahead, sort, thing in told])
    return f"{deed[0]} {words}"

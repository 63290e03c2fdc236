"""A DESK: a STORE that is asked, and told what to do, by lines."""

from namedcuts.errors import CutError, Missing
from namedcuts.lines import Line, deed_in
from namedcuts.store import Store
from namedcuts.texts import read_frame

MOST_FIGURES = 19
MOST_EDITION_FIGURES = 3
REFUSED = "no"
NOTHING = "none"
DONE = "done"
DEEDS = ("split ", "join ", "shift ", "move ", "call ", "off ", "on ")
CHANGES = ("bind ", "put ", "take ", "undo", "redo")
OF_KEYS = ("home ", "reached ")
OF_TWO = ("ask ", "reads ")
OTHERS = ("parts", "stale ", "edition")


class Desk:
    """A DESK with a STORE of the FRAME that a text tells."""

    def __init__(self, text):
        self.held = Store(read_frame(text))

    @property
    def store(self):
        """The STORE."""
        return self.held

    def say(self, line):
        """What is answered to a line."""
        if not isinstance(line, str):
            return REFUSED
        try:
            return self._answer(Line(line, 0))
        except (CutError, Missing):
            return REFUSED

    def _answer(self, line):
        word = line.choose((*DEEDS, *CHANGES, *OF_KEYS, *OF_TWO, *OTHERS))
        if word in DEEDS:
            deed = deed_in(line, word.strip())
            line.end()
            self.held.do(deed)
            return DONE
        if word in CHANGES:
            return self._change(word, line)
        if word in OF_KEYS:
            return self._of_key(word, _key_in(line))
        if word in OF_TWO:
            return self._of_two(word, line)
        return self._other(word, line)

    def _change(self, word, line):
        if word in ("undo", "redo"):
            line.end()
            is_done = self.held.undo() if word == "undo" else self.held.redo()
            return DONE if is_done else "nothing"
        if word == "bind ":
            name = line.name()
            line.expect(" ")
            self.held.bind(name, _key_in(line))
            return DONE
        if word == "take ":
            return self.held.take(_key_in(line))
        key = line.whole(MOST_FIGURES)
        line.expect(" ")
        return self.held.put(key, line.rest())

    def _of_key(self, word, key):
        if word == "reached ":
            return _listed(" ", self.held.reached(key))
        home = self.held.home(key)
        return NOTHING if home is None else home

    def _of_two(self, word, line):
        low = line.whole(MOST_FIGURES)
        line.expect(" ")
        high = _key_in(line)
        if word == "reads ":
            return _listed(" ", self.held.reads(low, high))
        return _listed("; ", [f"{key}:{text}" for key, text in self.held.ask(low, high)])

    def _other(self, word, line):
        if word == "stale ":
            edition = line.figures(MOST_EDITION_FIGURES)
            line.end()
            return _listed("; ", [f"{low} to {high}" for low, high in self.held.stale(edition)])
        line.end()
        if word == "edition":
            return str(self.held.edition_now)
        return _listed(" ", [name for name, _, _, _ in self.held.ranges])


def _key_in(line):
    """The number with which a line ends."""
    key = line.whole(MOST_FIGURES)
    line.end()
    return key


def _listed(between, words):
    """Words with something between two, or that there is none."""
    return between.join(list(words)) if words else NOTHING

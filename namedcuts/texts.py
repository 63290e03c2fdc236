"""Texts of FRAMEs, LAYOUTs, scripts, ROLLINGs and TERMs, there and back."""

from namedcuts.errors import BadText
from namedcuts.frames import need_frame, order_of
from namedcuts.layouts import need_layout, see_layout
from namedcuts.lines import Line, deed_in, deed_words, term_words
from namedcuts.pieces import see_script
from namedcuts.rolling import need_rolling
from namedcuts.scripts import need_script
from namedcuts.terms import need_term, see_term

MOST_OPEN = 40
MOST_FIGURES = 2
PLAIN_DEEDS = ("split ", "join ", "shift ", "move ", "call ", "off ", "on ", "need ")


def frame_text(frame):
    """The text of a FRAME."""
    names, facts = need_frame(frame)
    return "\n".join([f"name {name}" for name in names] + [f"fact {one} {word} {other}" for one, word, other in facts])


def layout_text(frame, layout):
    """The text of a LAYOUT."""
    need_layout(frame, layout)
    return "\n".join([f"part {name} from {term_words(low)} to {term_words(high)} in {house}"
                      for name, low, high, house in layout])


def script_text(frame, script):
    """The text of a script."""
    need_script(frame, (), script)
    return "\n".join(_script_lines(script))


def _script_lines(script):
    lines = []
    for deed in script:
        lines.append(deed_words(deed))
        if deed[0] == "if":
            lines.extend([*_script_lines(deed[3]), "else", *_script_lines(deed[4]), "end"])
    return lines


def rolling_text(rolling):
    """The text of a ROLLING."""
    need_rolling(rolling)
    return "\n".join([f"every {every} from {begin} {_roll_words(roll)}" for every, begin, roll in rolling])


def _roll_words(roll):
    if roll[0] == "move":
        return f"move {roll[1]} to {roll[2]}"
    return " ".join([str(word) for word in roll])


def term_text(frame, term):
    """The text of a TERM."""
    return term_words(need_term(frame, term))


def read_frame(text):
    """The FRAME that a text tells."""
    names = []
    facts = []
    for line in _lines_of(text):
        if line.choose(_frame_words(names, facts)) == "name ":
            names.append(line.name())
        else:
            one = line.name()
            word = line.choose((" upto ", " ahead "))
            facts.append((one, word.strip(), line.name()))
        line.end()
    return need_frame((tuple(names), tuple(facts)))


def _frame_words(names, facts):
    """With what a line can begin behind some NAMES and FACTS."""
    if facts:
        return ("fact ",)
    return ("name ", "fact ") if names else ("name ",)


def _lines_of(text):
    """The list of the Lines of a text; BadText of what is no string."""
    if not isinstance(text, str):
        raise BadText(-1, -1)
    return [Line(words, number) for number, words in enumerate(text.split("\n"))]


def _lines_or_none(text):
    """The list of the Lines of a text that tells of nothing if it is empty."""
    lines = _lines_of(text)
    return [] if text == "" else lines


def read_layout(frame, text):
    """The LAYOUT that a text tells."""
    order = order_of(frame)
    layout = tuple([_part_in(line) for line in _lines_or_none(text)])
    see_layout(order, layout)
    return layout


def _part_in(line):
    line.expect("part ")
    name = line.name()
    line.expect(" from ")
    low = line.term(False)
    line.expect(" to ")
    high = line.term(False)
    line.expect(" in ")
    house = line.name()
    line.end()
    return (name, low, high, house)


class Nest:
    """A script on its way through its lines.

    deeds is the list of DEEDs of the SCRIPT that goes on; waiting has for each "if" that is open itself without its
    SCRIPTs, the list of DEEDs to which it comes, and its THEN, None as long as this goes on."""

    def __init__(self):
        self.deeds = []
        self.waiting = []

    def words(self):
        """With what a line can begin."""
        found = list(PLAIN_DEEDS)
        if len(self.waiting) < MOST_OPEN:
            found.append("if ")
        if self.waiting:
            found.append("else" if self.waiting[-1][2] is None else "end")
        return found

    def take_in(self, line):
        """Reads a line."""
        word = line.choose(self.words())
        if word == "else":
            head, outer, _ = self.waiting.pop()
            self.waiting.append((head, outer, tuple(self.deeds)))
            self.deeds = []
        elif word == "end":
            head, outer, first = self.waiting.pop()
            outer.append((*head, first, tuple(self.deeds)))
            self.deeds = outer
        elif word == "if ":
            self.waiting.append((deed_in(line, "if"), self.deeds, None))
            self.deeds = []
        else:
            self.deeds.append(deed_in(line, word.strip()))
        line.end()


def read_script(frame, text):
    """The script that a text tells."""
    order = order_of(frame)
    lines = _lines_or_none(text)
    nest = Nest()
    for line in lines:
        nest.take_in(line)
    if nest.waiting:
        raise BadText(len(lines), 0)
    script = tuple(nest.deeds)
    see_script(order, {}, script)
    return script


def read_rolling(text):
    """The ROLLING that a text tells."""
    return need_rolling(tuple([_line_in(line) for line in _lines_of(text)]))


def _line_in(line):
    line.expect("every ")
    every = line.figures(MOST_FIGURES)
    line.expect(" from ")
    begin = line.figures(MOST_FIGURES)
    line.expect(" ")
    roll = _roll_in(line)
    line.end()
    return (every, begin, roll)


def _roll_in(line):
    word = line.choose(("cut", "join ", "keep ", "move ")).strip()
    if word == "cut":
        return (word,)
    number = line.figures(MOST_FIGURES)
    if word == "keep":
        return (word, number)
    line.expect(" " if word == "join" else " to ")
    return (word, number, line.figures(MOST_FIGURES) if word == "join" else line.name())


def read_term(frame, text):
    """The TERM that a text tells."""
    order = order_of(frame)
    first, *more = _lines_of(text)
    term = first.term(False)
    first.end()
    if more:
        raise BadText(1, 0)
    see_term(order, term)
    return term

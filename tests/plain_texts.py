"""Where a text breaks, told by trying all ways to read it; made without the program.

A reader takes a text, a place and a list, and gives the places at which it can end; it puts something into the list
if it comes to the end of the text where more could come."""

LETTERS = "abcdefghijklmnopqrstuvwxyz"
FIGURES = "0123456789"
MOST_DEEP = 20


def just(words):
    def read(text, at, ends):
        for sign in words:
            if at == len(text):
                ends.append(at)
                return []
            if text[at] != sign:
                return []
            at += 1
        return [at]
    return read


def name(text, at, ends):
    found = []
    for many in range(6):
        if at + many == len(text):
            ends.append(at)
            break
        if text[at + many] not in LETTERS:
            break
        found.append(at + many + 1)
    return found


def number(text, at, ends):
    return [end for wanted in [str(number) for number in range(100)] for end in just(wanted)(text, at, ends)]


def any_of(*readers):
    return lambda text, at, ends: sorted({end for read in readers for end in read(text, at, ends)})


def all_of(*readers):
    def read(text, at, ends):
        places = {at}
        for one in readers:
            places = {end for place in places for end in one(text, place, ends)}
        return sorted(places)
    return read


def term(edges, deep=1):
    def read(text, at, ends):
        ways = [just("-"), just("+"), name]
        if edges:
            ways += [all_of(just(word), name, just(")")) for word in ("lo(", "hi(")]
        if deep < MOST_DEEP:
            ways += [all_of(just(word), terms(edges, deep + 1)) for word in ("least(", "greatest(")]
        return any_of(*ways)(text, at, ends)
    return read


def terms(edges, deep):
    """One term or more, and what ends them."""
    def read(text, at, ends):
        found = []
        places = term(edges, deep)(text, at, ends)
        while places:
            found += [end for place in places for end in just(")")(text, place, ends)]
            places = [end for place in places for end in all_of(just(", "), term(edges, deep))(text, place, ends)]
        return found
    return read


NAME = all_of(just("name "), name)
FACT = all_of(just("fact "), name, any_of(just(" upto "), just(" ahead ")), name)
PART = all_of(just("part "), name, just(" from "), term(False), just(" to "), term(False), just(" in "), name)
ROLL = all_of(just("every "), number, just(" from "), number, just(" "), any_of(
    just("cut"), all_of(just("join "), number, just(" "), number), all_of(just("keep "), number),
    all_of(just("move "), number, just(" to "), name)))
DEEDS = (
    all_of(just("split "), name, just(" at "), term(True), just(" as "), name, just(" "), name),
    all_of(just("join "), name, just(" "), name, just(" as "), name),
    all_of(just("shift "), name, just(" "), name, just(" to "), term(True)),
    all_of(just("move "), name, just(" to "), name),
    all_of(just("call "), name, just(" "), name),
    all_of(just("off "), name),
    all_of(just("on "), name, just(" from "), term(True), just(" to "), term(True), just(" in "), name),
    all_of(just("need "), term(True), just(" upto "), term(True)),
)
IF = all_of(just("if "), term(True), just(" upto "), term(True))


def place_in(line, reader):
    """The place at which a line breaks, None if it is one."""
    if len(line) in reader(line, 0, []):
        return None
    for at in range(len(line)):
        ends = []
        if at + 1 not in reader(line[:at + 1], 0, ends) and not ends:
            return at
    return len(line)


def break_in(text, readers_for):
    """The line and the place at which a text breaks, None if it does not.

    readers_for is given the lines ahead, and tells how the next one can be read; None of what can't end there."""
    lines = text.split("\n")
    for at, line in enumerate(lines):
        place = place_in(line, any_of(*readers_for(lines[:at])))
        if place is not None:
            return at, place
    return None


def frame_break(text):
    def readers(ahead):
        if any(line.startswith("fact") for line in ahead):
            return [FACT]
        return [NAME, FACT] if ahead else [NAME]
    return break_in(text, readers)


def layout_break(text):
    return None if text == "" else break_in(text, lambda ahead: [PART])


def rolling_break(text):
    return break_in(text, lambda ahead: [ROLL])


def term_break(text):
    return break_in(text, lambda ahead: [term(False)] if not ahead else [])


def open_ifs(lines):
    """For each if that is open whether its second script goes on."""
    found = []
    for line in lines:
        if line.startswith("if "):
            found.append(False)
        elif line == "else":
            found[-1] = True
        elif line == "end":
            found.pop()
    return found


def script_break(text):
    if text == "":
        return None

    def readers(ahead):
        open_now = open_ifs(ahead)
        found = list(DEEDS)
        if len(open_now) < 40:
            found.append(IF)
        if open_now:
            found.append(just("end") if open_now[-1] else just("else"))
        return found
    found = break_in(text, readers)
    lines = text.split("\n")
    if found is None and open_ifs(lines):
        return len(lines), 0
    return found

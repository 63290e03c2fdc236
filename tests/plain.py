"""What layouts and scripts do in one world, done plainly, and layouts and scripts to try; made without the program."""

from itertools import product
from random import Random

from trials import mixed_term, number_of

LOW, HIGH = -10 ** 9, 10 ** 9
NAMES = ("p", "q", "r", "s")


def all_cuts(frame):
    """The cuts of a frame by their words: with the B of each fact its A."""
    names, facts = frame
    found = []
    for marks in product((False, True), repeat=len(names)):
        cut = tuple(name for name, mark in zip(names, marks) if mark)
        if all(one in cut or other not in cut for one, _, other in facts):
            found.append(cut)
    return sorted(found, key=lambda cut: (len(cut), cut))


def cut_at(frame, world, key):
    return tuple(name for name, low in zip(frame[0], world) if low <= key)


def has_plainly(cut, term):
    """Whether a cut has a term, by values that put its names at 0 and all others at 2, asked at the key 1."""
    values = {name: 0 if name in cut else 2 for name in "abcdefgpqrxyz"}
    return number_of(term, values) <= 1


def lies_in(part, values, key):
    return number_of(part[1], values) <= key < number_of(part[2], values)


def parts_plainly(frame, layout, world, key):
    values = dict(zip(frame[0], world))
    return tuple(part[0] for part in layout if lies_in(part, values, key))


def up_term(cuts):
    """The term that just those cuts have that have one of these within."""
    if not cuts:
        return "+"
    lowest = [cut for cut in cuts if not any(set(one) < set(cut) for one in cuts)]
    return ("least", *[("greatest", *cut) if cut else "-" for cut in lowest])


def is_convex(cuts, lot):
    """Whether each cut between two of a lot is in the lot."""
    above = [cut for cut in cuts if any(set(low) <= set(cut) for low in lot)]
    return {cut for cut in above if any(set(cut) <= set(high) for high in lot)} == set(lot)


def part_with(name, cuts, lot, house="home"):
    """A part that just these cuts are in."""
    above = [cut for cut in cuts if any(set(low) <= set(cut) for low in lot)]
    return (name, up_term(lot), up_term([cut for cut in above if cut not in lot]), house)


def split_up(cuts, chance, most):
    """All cuts in convex lots."""
    lots = [[cut] for cut in cuts]
    chance.shuffle(lots)
    for _ in range(300):
        one, other = chance.choice(lots), chance.choice(lots)
        if len(lots) > most and one is not other and is_convex(cuts, one + other):
            lots = [lot for lot in lots if lot is not one and lot is not other] + [one + other]
    return lots


def right_layouts(frame, many, seed):
    """So many layouts in which each cut is in just one part, some with empty parts."""
    chance = Random(seed)
    cuts = all_cuts(frame)
    found = []
    while len(found) < many:
        lots = split_up(cuts, chance, chance.randint(1, 6)) + [[]] * chance.randint(0, 1)
        if len(lots) <= 16:
            chance.shuffle(lots)
            found.append(tuple(part_with(chr(97 + at) + "zzz"[:at % 3], cuts, lot) for at, lot in enumerate(lots)))
    return found


def any_layouts(frame, many, seed):
    """So many layouts with any terms for bounds."""
    chance = Random(seed)
    bounds = list(frame[0]) + ["-", "+"]
    return [tuple((name, mixed_term(bounds, chance, 2), mixed_term(bounds, chance, 2), chance.choice(("home", "hut")))
                  for name in NAMES[:chance.randint(0, 4)]) for _ in range(many)]


class Stop(Exception):
    pass


class Plain:
    """A script that is done in a world, deed by deed, everything put in at once ahead of each body."""

    def __init__(self, frame, book, layout, world):
        self.values = dict(zip(frame[0], world))
        self.book = {piece[0]: piece for piece in book}
        self.parts = {name: (number_of(low, self.values), number_of(high, self.values), house)
                      for name, low, high, house in layout}
        self.deeds = []
        self.behind = [dict(self.parts)]

    def outcome(self, script):
        try:
            self.do_all(script)
            word = "done"
        except Stop:
            word = "stopped"
        layout = tuple((name, back(low), back(high), house) for name, (low, high, house) in sorted(self.parts.items()))
        return (word, len(self.deeds), layout)

    def do_all(self, script):
        for deed in script:
            if deed[0] == "do":
                _, params, body = self.book[deed[1]]
                given = dict(zip(params, deed[2]))
                self.do_all(tuple(put_in(one, given, self.book) for one in body))
            elif deed[0] == "if":
                self.do_all(deed[3] if self.number(deed[1]) <= self.number(deed[2]) else deed[4])
            else:
                getattr(self, "do_" + deed[0])(*deed[1:])
                self.deeds.append(deed)
                self.behind.append(dict(self.parts))

    def number(self, term):
        if isinstance(term, tuple) and term[0] in ("lo", "hi"):
            self.want(term[1] in self.parts)
            return self.parts[term[1]][term[0] == "hi"]
        if isinstance(term, tuple):
            many = [self.number(part) for part in term[1:]]
            return min(many) if term[0] == "least" else max(many)
        return number_of(term, self.values)

    def want(self, holds):
        if not holds:
            raise Stop

    def do_split(self, part, term, left, right):
        middle = self.number(term)
        self.want(part in self.parts and left != right)
        self.want(all(new == part or new not in self.parts for new in (left, right)))
        self.want(len(self.parts) < 16)
        low, high, house = self.parts.pop(part)
        middle = max(low, min(middle, high))
        self.parts[left] = (low, middle, house)
        self.parts[right] = (middle, high, house)

    def meet(self, left, right):
        self.want(left in self.parts and right in self.parts and left != right)
        self.want(self.parts[left][1] == self.parts[right][0])
        middle = self.parts[left][1]
        return min(self.parts[left][0], middle), max(middle, self.parts[right][1])

    def do_join(self, left, right, part):
        low, high = self.meet(left, right)
        self.want(part in (left, right) or part not in self.parts)
        house = self.parts[left][2]
        del self.parts[left], self.parts[right]
        self.parts[part] = (low, high, house)

    def do_shift(self, left, right, term):
        middle = self.number(term)
        low, high = self.meet(left, right)
        middle = max(low, min(middle, high))
        self.parts[left] = (low, middle, self.parts[left][2])
        self.parts[right] = (middle, high, self.parts[right][2])

    def do_move(self, part, house):
        self.want(part in self.parts)
        self.parts[part] = self.parts[part][:2] + (house,)

    def do_call(self, part, new):
        self.want(part in self.parts and new not in self.parts)
        self.parts[new] = self.parts.pop(part)

    def do_off(self, part):
        self.want(part in self.parts)
        del self.parts[part]

    def do_on(self, part, low, high, house):
        bounds = (self.number(low), self.number(high))
        self.want(part not in self.parts and len(self.parts) < 16)
        self.parts[part] = (*bounds, house)

    def do_need(self, one, other):
        self.want(self.number(one) <= self.number(other))


def back(number):
    """The value that a number is told as."""
    return {LOW: "-", HIGH: "+"}.get(number, number)


PLACES = {"split": "ptpp", "join": "ppp", "shift": "ppt", "move": "p.", "call": "pp", "off": "p", "on": "ptt.",
          "need": "tt", "if": "ttss"}


def put_in(deed, given, book):
    """A deed with what was given, by pairs of a sort and a word, put in everywhere at once."""
    if deed[0] == "do":
        sorts = [sort for sort, _ in book[deed[1]][1]]
        return ("do", deed[1], tuple(given.get((sort, thing), thing) if sort == "part" else term_in(thing, given)
                                     for sort, thing in zip(sorts, deed[2])))
    found = [deed[0]]
    for place, thing in zip(PLACES[deed[0]], deed[1:]):
        if place == "p":
            found.append(given.get(("part", thing), thing))
        elif place == "t":
            found.append(term_in(thing, given))
        elif place == "s":
            found.append(tuple(put_in(one, given, book) for one in thing))
        else:
            found.append(thing)
    return tuple(found)


def term_in(term, given):
    if isinstance(term, str):
        return given.get(("bound", term), term)
    if term[0] in ("lo", "hi"):
        return (term[0], given.get(("part", term[1]), term[1]))
    return (term[0], *[term_in(part, given) for part in term[1:]])


def outcome(frame, book, layout, script, world):
    return Plain(frame, book, layout, world).outcome(script)


def deeds(frame, book, layout, script, world):
    plain = Plain(frame, book, layout, world)
    plain.outcome(script)
    return tuple(plain.deeds)


BOOK = (
    ("cut", (("part", "p"), ("bound", "t"), ("part", "n")), (("split", "p", ("greatest", "t", ("lo", "p")), "p", "n"),)),
    ("swap", (("part", "p"), ("part", "q")), (
        ("call", "p", "tmp"), ("call", "q", "p"), ("call", "tmp", "q"), ("if", ("lo", "p"), ("lo", "q"), (), (
            ("need", ("hi", "q"), ("lo", "p")),)))),
    ("twice", (("bound", "t"), ("bound", "u"), ("part", "r")), (
        ("do", "cut", ("r", ("least", "t", "u"), "x")), ("do", "cut", ("x", ("greatest", "t", "u", ("lo", "r")), "y")))),
)


def mixed_scripts(frame, many, seed, book=BOOK, most=6):
    """So many scripts with deeds of every sort, many of which can be done."""
    chance = Random(seed)
    return [mixed_script(frame, chance, book, chance.randint(0, most), 2) for _ in range(many)]


def mixed_script(frame, chance, book, many, deep):
    return tuple(mixed_deed(frame, chance, book, deep) for _ in range(many))


def mixed_deed(frame, chance, book, deep):
    names = ("p", "q", "r") if chance.random() < 0.9 else ("p", "q", "r", "x", "y", "s")
    edges = [("lo", name) for name in names[:2]] + [("hi", name) for name in names[:2]]
    bounds = list(frame[0]) * 3 + ["-", "+"] + edges
    part = [chance.choice(names) for _ in range(3)]
    term = [mixed_term(bounds, chance, 1) for _ in range(3)]
    house = chance.choice(("home", "hut"))
    word = chance.choice(("split", "split", "split", "join", "join", "shift", "move", "call", "off", "on", "need", "if",
                          "if", "do"))
    if word == "if":
        inner = [mixed_script(frame, chance, book, chance.randint(0, 2) if deep else 0, deep - 1) for _ in range(2)]
        return ("if", term[0], term[1], inner[0], inner[1])
    if word == "do" and book:
        name, params, _ = chance.choice(book)
        return ("do", name, tuple(chance.choice(term if sort == "bound" else part) for sort, _ in params))
    return {"split": ("split", part[0], term[0], part[0], part[1]), "join": ("join", part[0], part[1], part[2]),
            "shift": ("shift", part[0], part[1], term[0]), "move": ("move", part[0], house),
            "call": ("call", part[0], part[1]), "off": ("off", part[0]), "on": ("on", part[0], term[0], term[1], house),
            }.get(word, ("need", term[0], term[1]))


def first_layouts(frame):
    """Layouts for scripts to begin with: one part, two that meet, some that do not, bounds the wrong way about."""
    low, high = frame[0][0], frame[0][-1]
    return [
        (("p", "-", "+", "home"),),
        (("p", "-", low, "home"), ("q", low, "+", "hut")),
        (("p", "-", high, "home"), ("q", ("least", low, high), "+", "home"), ("r", "+", "-", "hut")),
        (("p", high, low, "home"), ("q", low, high, "hut")),
        (),
    ]

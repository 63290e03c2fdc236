"""A live table told by the words of the document, key by key; deeds to try; made without the program."""

from plain import HIGH, LOW, Plain, back
from trials import mixed_term


class PlainStore:
    """A store that is made anew from its journal for each thing that is asked."""

    def __init__(self, frame):
        self.frame = frame
        self.journal = []

    def made(self, many=None):
        return Made(self.frame, self.journal if many is None else self.journal[:many])


class Made:
    """What a journal leads to: parts behind each deed, rows, and rows in the attic."""

    def __init__(self, frame, journal):
        self.values = {}
        self.frame = frame
        self.parts = {"all": (LOW, HIGH, "home")}
        self.editions = [dict(self.parts)]
        self.rows = {}
        self.attic = {}
        for thing in journal:
            self.do(thing)

    def do(self, thing):
        if thing[0] == "bind":
            self.values[thing[1]] = thing[2]
        elif thing[0] == "put":
            self.rows[thing[1]] = thing[2]
        elif thing[0] == "take":
            del self.rows[thing[1]]
        else:
            self.deed(thing[1])

    def deed(self, deed):
        gone = {}
        if deed[0] == "off":
            gone = {key: text for key, text in self.rows.items() if self.home(key) == deed[1]}
        parts = self.behind(deed)
        if deed[0] == "off":
            self.rows = {key: text for key, text in self.rows.items() if key not in gone}
            self.attic[deed[1]] = {**self.attic.get(deed[1], {}), **gone}
        if deed[0] == "on":
            self.rows.update(self.attic.pop(deed[1], {}))
        self.attic = {name: rows for name, rows in self.attic.items() if rows}
        self.parts = parts
        self.editions.append(dict(parts))

    def behind(self, deed):
        """The parts behind a deed that can be done."""
        plain = self.asked()
        plain.do_all((deed,))
        return plain.parts

    def home(self, key, edition=-1):
        parts = self.parts if edition == -1 else self.editions[edition]
        found = [name for name, (low, high, _) in parts.items() if low <= key < high]
        assert len(found) <= 1
        return found[0] if found else None

    def ranges(self):
        return tuple((name, back(low), back(high), house) for name, (low, high, house) in sorted(self.parts.items()))

    def attic_told(self):
        return {name: tuple(sorted(rows.items())) for name, rows in sorted(self.attic.items())}

    def refusal(self, deed):
        """The word of an error and what it is made with, None if the deed can be done."""
        for term in [thing for thing in deed[1:] if is_term_in(deed, thing)]:
            for name in names_in(term):
                if name not in self.values:
                    return "Unbound", name
        if word := self.stop(deed):
            return "Stopped", word
        if deed[0] != "on":
            return None
        low, high = (Plain.number(self.asked(), term) for term in deed[2:4])
        for name, (begin, end, _) in sorted(self.parts.items()):
            if max(low, begin) < min(high, end):
                return "Overlaps", name
        outside = [key for key in self.attic.get(deed[1], {}) if not low <= key < high]
        return ("Outside", min(outside)) if outside else None

    def asked(self):
        """A script on its way that stands where this stands."""
        plain = Plain((tuple(self.values), ()), (), (), tuple(self.values.values()))
        plain.parts = dict(self.parts)
        return plain

    def stop(self, deed):
        word, *names = deed
        old = {"split": names[:1], "join": names[:2], "shift": names[:2], "on": []}.get(word, names[:1])
        edges = [part for thing in names if is_term_in(deed, thing) for part in parts_in(thing)]
        if any(part not in self.parts for part in old + edges) or len(set(old)) < len(old):
            return "part"
        new = {"split": names[2:], "join": names[2:], "call": names[1:], "on": names[:1]}.get(word, [])
        may = old if word in ("split", "join") else []
        if any(part in self.parts and part not in may for part in new) or len(set(new)) < len(new):
            return "name"
        if word in ("split", "on") and len(self.parts) == 16:
            return "many"
        if word in ("join", "shift") and self.parts[names[0]][1] != self.parts[names[1]][0]:
            return "meet"
        return None


def is_term_in(deed, thing):
    """Whether a thing stands in a deed where a term stands."""
    places = {"split": (2,), "shift": (3,), "on": (2, 3)}.get(deed[0], ())
    return any(deed[place] is thing for place in places)


def names_in(term):
    if isinstance(term, str):
        return [term] if term not in ("-", "+") else []
    return [name for part in term[1:] for name in names_in(part)] if term[0] not in ("lo", "hi") else []


def parts_in(term):
    if isinstance(term, str):
        return []
    return [term[1]] if term[0] in ("lo", "hi") else [part for one in term[1:] for part in parts_in(one)]


def mixed_store_deed(frame, parts, chance):
    """A deed that often can be done where there are these parts."""
    there = sorted(parts) or ["all"]
    names = there + ["all", "p", "q", "r", "s"]
    bounds = list(frame[0]) * 3 + ["-", "+"] + [(edge, chance.choice(names)) for edge in ("lo", "hi")]
    part = [chance.choice(there if chance.random() < 0.8 else names) for _ in range(2)] + [chance.choice(names[-5:])]
    term = [mixed_term(bounds, chance, 1) for _ in range(2)]
    house = chance.choice(("home", "hut"))
    word = chance.choice(("split", "split", "split", "join", "shift", "move", "call", "off", "on", "on"))
    if word in ("join", "shift"):
        pairs = [(one, other) for one in there for other in there if one != other and parts[one][1] == parts[other][0]]
        if pairs and chance.random() < 0.8:
            part[:2] = chance.choice(pairs)
    if word == "on" and chance.random() < 0.5:
        # Often just what lies in no part.
        ends = sorted({LOW, HIGH, *[bound for low, high, _ in parts.values() for bound in (low, high)]})
        gaps = [(low, high) for low, high in zip(ends, ends[1:])
                if not any(begin <= low < end for begin, end, _ in parts.values())]
        edges = {parts[name][edge]: (("lo", "hi")[edge], name) for name in parts for edge in (0, 1)}
        edges.update({LOW: "-", HIGH: "+"})
        if gaps:
            low, high = chance.choice(gaps)
            term = [edges[low], edges[high]]
    return {"split": ("split", part[0], term[0], chance.choice(part), part[2]), "join": ("join", part[0], part[1], part[2]),
            "shift": ("shift", part[0], part[1], term[0]), "move": ("move", part[0], house),
            "call": ("call", part[0], part[2]), "off": ("off", part[0]),
            "on": ("on", part[2], term[0], term[1], house)}[word]


def values_to_try(frame, chance):
    """Values for the names that some world has."""
    names, facts = frame
    while True:
        values = {name: chance.randint(-6, 12) for name in names}
        if all(values[one] < values[other] if word == "ahead" else values[one] <= values[other]
               for one, word, other in facts):
            return values


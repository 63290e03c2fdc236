"""Cases of a script by the words of the document: it is done with terms, from its beginning for each answer."""

from namedcuts.frames import told
from namedcuts.terms import ahead, normal, upto
from plain import Stop, put_in


class Asked(Exception):
    """A question that is not told."""


class ByTerms:
    """A script that is done with terms in a frame, its bounds kept in normal form."""

    def __init__(self, frame, book, layout):
        self.frame = frame
        self.book = {piece[0]: piece for piece in book}
        self.parts = {name: (normal(frame, low), normal(frame, high), house) for name, low, high, house in layout}
        self.behind = [(None, dict(self.parts))]

    def layouts(self):
        return [(deed, tuple((name, *parts[name]) for name in sorted(parts))) for deed, parts in self.behind]

    def word(self, script):
        try:
            self.do_all(script)
        except Stop:
            return "stopped"
        return "done"

    def do_all(self, script):
        for deed in script:
            if deed[0] == "do":
                _, params, body = self.book[deed[1]]
                given = dict(zip(params, deed[2]))
                self.do_all(tuple(put_in(one, given, self.book) for one in body))
            elif deed[0] == "if":
                one, other = self.term(deed[1]), self.term(deed[2])
                self.do_all(deed[3] if self.is_upto(one, other) else deed[4])
            else:
                getattr(self, "do_" + deed[0])(*deed[1:])
                self.behind.append((deed, dict(self.parts)))

    def is_upto(self, one, other):
        if upto(self.frame, one, other):
            return True
        if ahead(self.frame, other, one):
            return False
        raise Asked(one, other)

    def term(self, term):
        """The term with the bounds of parts, in normal form."""
        return normal(self.frame, self.plain(term))

    def plain(self, term):
        if isinstance(term, str):
            return term
        if term[0] in ("lo", "hi"):
            self.want(term[1] in self.parts)
            return self.parts[term[1]][("lo", "hi").index(term[0])]
        return (term[0], *[self.plain(part) for part in term[1:]])

    def want(self, holds):
        if not holds:
            raise Stop

    def put(self, name, low, high, house):
        self.parts[name] = (self.term(low), self.term(high), house)

    def do_split(self, part, term, left, right):
        term = self.term(term)
        self.want(part in self.parts and left != right and len(self.parts) < 16)
        self.want(all(new == part or new not in self.parts for new in (left, right)))
        low, high, house = self.parts.pop(part)
        middle = ("greatest", low, ("least", term, high))
        self.put(left, low, middle, house)
        self.put(right, middle, high, house)

    def meet(self, left, right):
        one, other = self.parts[left][1], self.parts[right][0]
        self.want(self.is_upto(one, other))
        self.want(self.is_upto(other, one))
        return ("least", self.parts[left][0], one), ("greatest", one, self.parts[right][1])

    def do_join(self, left, right, part):
        self.want(left in self.parts and right in self.parts and left != right)
        self.want(part in (left, right) or part not in self.parts)
        low, high = self.meet(left, right)
        house = self.parts[left][2]
        del self.parts[left], self.parts[right]
        self.put(part, low, high, house)

    def do_shift(self, left, right, term):
        term = self.term(term)
        self.want(left in self.parts and right in self.parts and left != right)
        low, high = self.meet(left, right)
        middle = ("greatest", low, ("least", term, high))
        self.put(left, low, middle, self.parts[left][2])
        self.put(right, middle, high, self.parts[right][2])

    def do_move(self, part, house):
        self.want(part in self.parts)
        self.put(part, *self.parts[part][:2], house)

    def do_call(self, part, new):
        self.want(part in self.parts and new not in self.parts)
        self.parts[new] = self.parts.pop(part)

    def do_off(self, part):
        self.want(part in self.parts)
        del self.parts[part]

    def do_on(self, part, low, high, house):
        low, high = self.term(low), self.term(high)
        self.want(part not in self.parts and len(self.parts) < 16)
        self.put(part, low, high, house)

    def do_need(self, one, other):
        self.want(self.is_upto(self.term(one), self.term(other)))


def names_in(term):
    if isinstance(term, str):
        return {term} - {"-", "+"}
    return {name for part in term[1:] for name in names_in(part)}


def pair_of(frame, one, other):
    """The pair of names that is compared."""
    names = sorted(names_in(normal(frame, one)) | names_in(normal(frame, other)))
    for low in names:
        for high in names:
            up, down = told(frame, low, high), told(frame, high, low)
            if low < high and "ahead" not in (up, down) and not (up == down == "upto"):
                return low, high, up, down


def cases_by_terms(frame, book, layout, script, facts=()):
    """For each case its facts, its word, and the pairs of deeds and layouts."""
    new = (frame[0], frame[1] + facts)
    done = ByTerms(new, book, layout)
    try:
        word = done.word(script)
    except Asked as asked:
        low, high, up, _ = pair_of(new, *asked.args)
        # Where high upto low is told, too, the facts are those of the names of which nothing is.
        more = [(low, "upto", high), (high, "ahead", low)]
        if up == "upto":
            more = [(high, "upto", low), (low, "ahead", high)]
        return [case for fact in more for case in cases_by_terms(frame, book, layout, script, facts + (fact,))]
    return [(facts, word, done.layouts())]

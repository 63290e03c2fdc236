import unittest

from namedcuts.cuts import cuts
from namedcuts.errors import BadCut, BadFrame, BadNumber, BadTerm, BadWorld
from namedcuts.terms import (ahead, greatests, has, is_at, leasts, need_term, normal, same, term_from, upto, value,
                             check_upto, upto_paper)
from trials import ODD, WRONG, few_frames, frames_to_try, keys_of, nested, number_of, terms_to_try, worlds_of

SEVEN = tuple("abcdefg")
AB = (("a", "b"), ())


def deep_term(deep, inner="a"):
    """A term that is nested so deep."""
    for at in range(deep - 1):
        inner = (("least", "greatest")[at % 2], inner)
    return inner


def wide_term(many):
    """A term of so many names and ends, a multiple of 30 and some more."""
    rows = [("greatest",) + ("a",) * 30] * (many // 30)
    return ("least", *rows, *["-"] * (many % 30))


def ways_of(frame):
    """The pairs of names from one of which a way leads to the other, by the worlds."""
    names = frame[0]
    worlds = [dict(zip(names, world)) for world in worlds_of(frame)]
    return {(one, other) for one in names for other in names if all(at[one] <= at[other] for at in worlds)}


def ends_of(names, ways):
    """Those of some names from which no way leads to another one of them, but for equal ones: of these the first."""
    found = []
    for one in names:
        onward = [other for other in names if other != one and (one, other) in ways]
        if all((other, one) in ways and one < other for other in onward):
            found.append(one)
    return tuple(sorted(found))


def groups_of(frame, term):
    """Leasts and greatests of a term by the words of the document."""
    ways = ways_of(frame)
    back = {(other, one) for one, other in ways}
    having = [cut for cut in cuts(frame) if by_keys(cut, term)]
    lacking = [cut for cut in cuts(frame) if not by_keys(cut, term)]
    low = [cut for cut in having if not any(set(one) < set(cut) for one in having)]
    high = [cut for cut in lacking if not any(set(one) > set(cut) for one in lacking)]
    tops = tuple(sorted(ends_of(cut, ways) for cut in low))
    bottoms = tuple(sorted(ends_of([name for name in frame[0] if name not in cut], back) for cut in high))
    return bottoms, tops


def by_keys(cut, term):
    """Whether a cut has a term, by values that put its names at 0 and all others at 2, asked at the key 1."""
    return number_of(term, {name: 0 if name in cut else 2 for name in "abcdefg"}) <= 1


class Cases(unittest.TestCase):
    def bad(self, error, thing, call, *given):
        with self.assertRaises(error) as caught:
            call(*given)
        self.assertIs(caught.exception.given, thing)


class Forms(Cases):
    def test_terms_are_told_as_they_are(self):
        terms = ["a", "b", "-", "+", ("least", "a"), ("greatest", "-", "+"), deep_term(20), wide_term(300),
                 ("least",) + ("a",) * 40, ("greatest",) + ("b",) * 40]
        for term in terms:
            self.assertIs(need_term(AB, term), term)

    def test_how_deep(self):
        self.assertRaises(BadTerm, need_term, AB, deep_term(21))
        self.assertRaises(BadTerm, need_term, AB, deep_term(60))
        self.assertRaises(BadTerm, need_term, AB, ("least", "a", deep_term(20), "a"))
        self.assertRaises(BadTerm, need_term, AB, ("least", deep_term(20), "a"))
        self.assertRaises(BadTerm, need_term, AB, nested(60))
        self.assertRaises(BadTerm, need_term, AB, deep_term(20, ()))
        self.assertEqual(need_term(AB, ("least", "a", deep_term(19), "a")), ("least", "a", deep_term(19), "a"))

    def test_how_wide(self):
        self.assertRaises(BadTerm, need_term, AB, wide_term(301))
        self.assertEqual(need_term(AB, wide_term(299)), wide_term(299))
        for word in ("least", "greatest"):
            self.assertRaises(BadTerm, need_term, AB, (word,) + ("a",) * 41)
            self.assertRaises(BadTerm, need_term, AB, (word,))
            self.assertEqual(need_term(AB, (word, "a")), (word, "a"))

    def test_a_term_that_doubles_at_each_depth(self):
        term = "a"
        for _ in range(8):
            term = ("least", term, term)
        self.assertIs(need_term(AB, term), term)
        for _ in range(11):
            term = ("least", term, term)
        self.bad(BadTerm, term, need_term, AB, term)
        for _ in range(40):
            term = ("least", term, term)
        self.bad(BadTerm, term, need_term, AB, term)

    def test_wrong_things(self):
        wrong = list(WRONG) + ["c", "--", "", ("least", "c"), ("least", None), ("most", "a"), ["least", "a"],
                               ("least", ["a"]), ("LEAST", "a"), ("a",), ("a", "b"), ("-",), (("least",), "a"),
                               ("least", ("greatest",)), ("lo", "a"), (ODD, "a"), ("least", ODD), ({}, "a"),
                               ("least", ("a", "b")), ("least", "a", ("least", "a", True))]
        for thing in wrong:
            if isinstance(thing, str) and thing in ("a", "b"):
                continue
            self.bad(BadTerm, thing, need_term, AB, thing)
            for call in (normal, leasts, greatests):
                self.bad(BadTerm, thing, call, AB, thing)
            for call in (upto, ahead, same, upto_paper):
                self.bad(BadTerm, thing, call, AB, thing, "a")
                self.bad(BadTerm, thing, call, AB, "a", thing)
            self.bad(BadTerm, thing, check_upto, AB, "a", thing, None)
            self.bad(BadTerm, thing, check_upto, AB, thing, None, None)
            self.bad(BadTerm, thing, value, AB, (1, 2), thing)
            self.bad(BadTerm, thing, is_at, AB, (1, 2), 1, thing)
            self.bad(BadTerm, thing, has, AB, (), thing)

    def test_errors_in_their_order(self):
        calls = [(need_term, 1), (value, 2), (is_at, 3), (has, 2), (normal, 1), (leasts, 1), (greatests, 1),
                 (upto, 2), (ahead, 2), (same, 2), (term_from, 1), (upto_paper, 2), (check_upto, 3)]
        for call, more in calls:
            for frame in (None, ODD, (("a", "b"), (("a", "ahead", "b"), ("b", "upto", "a")))):
                self.assertRaises(BadFrame, call, frame, *[None] * more)
        for thing in WRONG + ((1, True), (1,)):
            self.bad(BadWorld, thing, value, AB, thing, None)
            self.bad(BadWorld, thing, is_at, AB, thing, None, None)
        self.bad(BadNumber, True, is_at, AB, (1, 2), True, None)
        self.bad(BadNumber, None, is_at, AB, (1, 2), None, None)
        for thing in (None, ["a"], ("b", "a"), ("c",), ODD):
            self.bad(BadCut, thing, has, AB, thing, None)
        self.bad(BadTerm, "c", upto, AB, "c", None)

    def test_nothing_passed_is_changed(self):
        term = ["least", "a", ["greatest", "b"]]
        self.assertRaises(BadTerm, normal, AB, term)
        self.assertRaises(BadTerm, same, AB, ("least", term), term)
        self.assertEqual(term, ["least", "a", ["greatest", "b"]])


class Values(Cases):
    def test_value_is_at_and_has_against_one_another(self):
        for frame in few_frames():
            terms = terms_to_try(frame[0], 25, 3)
            for world in worlds_of(frame):
                at = dict(zip(frame[0], world))
                for term in terms:
                    number = number_of(term, at)
                    told = {-10 ** 9: "-", 10 ** 9: "+"}.get(number, number)
                    self.assertEqual(value(frame, world, term), told, (frame, world, term))
                    for key in keys_of(world):
                        self.assertIs(is_at(frame, world, key, term), number <= key)
                        cut = tuple(name for name in frame[0] if at[name] <= key)
                        self.assertIs(has(frame, cut, term), number <= key)

    def test_values_are_integers(self):
        self.assertIs(type(value(AB, (0, 1), ("least", "a", "b"))), int)
        self.assertEqual(value(AB, (0, 1), ("greatest", "a", "b", "-")), 1)
        self.assertEqual(value(AB, (-10 ** 39, 10 ** 39), ("least", "a", "b", "+")), -10 ** 39)

    def test_ends(self):
        for term, told in (("-", "-"), ("+", "+"), (("least", "-", "a"), "-"), (("greatest", "+", "a"), "+"),
                           (("greatest", "-"), "-"), (("least", "+"), "+"), (("least", "-", "+"), "-")):
            self.assertEqual(value(AB, (1, 2), term), told)
            for key in (-10 ** 39, 0, 10 ** 39):
                self.assertIs(is_at(AB, (1, 2), key, term), told == "-")
            for cut in cuts(AB):
                self.assertIs(has(AB, cut, term), told == "-")

    def test_deep_and_wide_terms(self):
        self.assertEqual(value(AB, (4, 7), deep_term(20, "b")), 7)
        self.assertIs(has(AB, ("a",), wide_term(300)), True)
        self.assertEqual(normal(AB, deep_term(20, "b")), "b")
        self.assertEqual(normal(AB, wide_term(300)), "a")
        self.assertEqual(normal(AB, wide_term(299)), "-")


class Between(Cases):
    def test_upto_ahead_same_by_all_orders(self):
        for frame in few_frames():
            worlds = [dict(zip(frame[0], world)) for world in worlds_of(frame)]
            terms = terms_to_try(frame[0], 20, 5)[::2]
            numbers = [[number_of(term, at) for at in worlds] for term in terms]
            for one, low in zip(terms, numbers):
                for other, high in zip(terms, numbers):
                    pairs = list(zip(low, high))
                    self.assertIs(upto(frame, one, other), all(s <= t for s, t in pairs), (frame, one, other))
                    self.assertIs(ahead(frame, one, other), all(s < t for s, t in pairs), (frame, one, other))
                    self.assertIs(same(frame, one, other), all(s == t for s, t in pairs), (frame, one, other))
                    self.assertIs(normal(frame, one) == normal(frame, other), same(frame, one, other))

    def test_ends(self):
        for frame in (AB, (("a",), ())):
            for term in ("a", ("least", "a", "+")):
                self.assertIs(ahead(frame, "-", term), True)
                self.assertIs(ahead(frame, term, "+"), True)
                self.assertIs(ahead(frame, "+", term), False)
                self.assertIs(ahead(frame, term, "-"), False)
            for end in ("-", "+"):
                self.assertIs(ahead(frame, end, end), False)
                self.assertIs(upto(frame, end, end), True)
            self.assertIs(ahead(frame, "-", "+"), True)
            self.assertIs(upto(frame, "+", "-"), False)

    def test_ahead_of_what_is_not_ahead_of_either(self):
        frame = (("a", "b", "c", "d"), (("a", "ahead", "c"), ("b", "ahead", "d")))
        self.assertIs(ahead(frame, ("least", "a", "b"), ("least", "c", "d")), True)
        self.assertIs(ahead(frame, ("least", "a", "b"), "c"), True)
        self.assertIs(ahead(frame, "a", ("least", "c", "d")), False)
        self.assertIs(ahead(frame, ("least", "a", "b"), ("greatest", "a", "b")), False)


class Normal(Cases):
    def test_groups_by_the_words_of_the_document(self):
        for frame in few_frames() + frames_to_try()[::9]:
            if not set(frame[0]) <= set(SEVEN):
                continue
            for term in terms_to_try(frame[0], 15, 11):
                low, high = groups_of(frame, term)
                self.assertEqual(leasts(frame, term), low, (frame, term))
                self.assertEqual(greatests(frame, term), high, (frame, term))
                self.assertEqual(normal(frame, term), self.made_of(high), (frame, term))

    def made_of(self, groups):
        if groups in ((), ((),)):
            return "+" if groups == () else "-"
        parts = [group[0] if len(group) == 1 else ("greatest", *group) for group in groups]
        return parts[0] if len(parts) == 1 else ("least", *parts)

    def test_normal_is_same_and_its_own(self):
        for frame in few_frames():
            for term in terms_to_try(frame[0], 30, 13):
                told = normal(frame, term)
                self.assertEqual(normal(frame, told), told)
                self.assertIs(same(frame, told, term), True)
                self.assertEqual(need_term(frame, told), told)

    def test_ends(self):
        self.assertEqual((greatests(AB, "+"), leasts(AB, "+"), normal(AB, "+")), ((), ((),), "+"))
        self.assertEqual((greatests(AB, "-"), leasts(AB, "-"), normal(AB, "-")), (((),), (), "-"))
        self.assertEqual(normal(AB, ("least", "a", "-")), "-")
        self.assertEqual(normal(AB, ("greatest", "a", "+")), "+")
        self.assertEqual(normal(AB, ("greatest", "a", "-")), "a")

    def test_some_terms(self):
        frame = (("a", "b", "c"), ())
        self.assertEqual(normal(frame, ("greatest", ("least", "b", "a"), "c")),
                         ("least", ("greatest", "a", "c"), ("greatest", "b", "c")))
        self.assertEqual(leasts(frame, ("greatest", ("least", "b", "a"), "c")), (("a", "b"), ("c",)))
        self.assertEqual(normal(frame, ("least", ("greatest", "c", "b"), "a")), ("least", "a", ("greatest", "b", "c")))
        self.assertEqual(normal(frame, ("greatest", "c", "a")), ("greatest", "a", "c"))
        self.assertEqual(normal(frame, ("least", "a", ("greatest", "a", "b"))), "a")
        self.assertEqual(normal(frame, ("least", ("greatest", "b"))), "b")

    def test_equal_names(self):
        frame = (("a", "b", "c"), (("b", "upto", "c"), ("c", "upto", "b")))
        for name in ("b", "c"):
            self.assertEqual(normal(frame, name), "b")
            self.assertEqual(greatests(frame, name), (("b",),))
            self.assertEqual(leasts(frame, name), (("b",),))
        self.assertEqual(normal(frame, ("greatest", "c", "a", "b")), ("greatest", "a", "b"))
        self.assertEqual(normal(frame, ("least", "c", "a")), ("least", "a", "b"))

    def test_the_largest_normal_form(self):
        frame = (SEVEN, ())
        some = tuple(cut for cut in cuts(frame) if len(cut) == 4)
        term = term_from(frame, some)
        self.assertEqual(len(term), 36)
        self.assertEqual(need_term(frame, term), term)
        self.assertEqual(normal(frame, term), term)
        self.assertEqual(greatests(frame, term), some)
        self.assertEqual(leasts(frame, term), some)


class FromCuts(Cases):
    def test_term_from(self):
        for frame in few_frames():
            all_cuts = cuts(frame)
            for number in range(min(1 << len(all_cuts), 200)):
                some = tuple(cut for at, cut in enumerate(all_cuts) if number >> at & 1)
                term = term_from(frame, some)
                for cut in all_cuts:
                    within = any(set(one) <= set(cut) for one in some)
                    self.assertIs(has(frame, cut, term), within, (frame, some))
                self.assertEqual(normal(frame, term), term)
                self.assertEqual(term_from(frame, some[::-1] + some), term)

    def test_none_and_all(self):
        self.assertEqual(term_from(AB, ()), "+")
        self.assertEqual(term_from(AB, ((),)), "-")
        self.assertEqual(term_from(AB, cuts(AB)), "-")
        self.assertEqual(term_from(AB, (("a", "b"),)), ("greatest", "a", "b"))
        self.assertEqual(term_from(AB, (("b",), ("a",))), ("least", "a", "b"))

    def test_wrong_things(self):
        for thing in WRONG + ([("a",)], ("a",), (("a",), None), (("b", "a"),), (("a",), ["b"]), (("c",),), ((), ODD)):
            if isinstance(thing, tuple) and all(isinstance(one, tuple) and one in cuts(AB) for one in thing):
                continue
            self.bad(BadCut, thing, term_from, AB, thing)
        line = (("a", "b"), (("a", "upto", "b"),))
        self.bad(BadCut, some := (("a",), ("b",)), term_from, line, some)

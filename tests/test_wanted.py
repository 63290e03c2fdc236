import unittest
from itertools import combinations

from namedcuts.errors import BadFrame, BadLayout, BadQuestion, TooMany
from namedcuts.wanted import wanted_facts
from plain import all_cuts, any_layouts, has_plainly, parts_plainly, right_layouts
from trials import WRONG, few_frames, keys_of, worlds_of

AB = (("a", "b"), ())
FIVE = tuple("abcde")


def chain(*bounds):
    """Parts one behind the other, between these bounds."""
    ends = ("-", *bounds, "+")
    return tuple(("klmnopq"[at], low, high, "h") for at, (low, high) in enumerate(zip(ends, ends[1:])))


def apart(names):
    """Parts for the keys that reach none of the names, and for those that reach all: right if all values are equal."""
    return (("k", "-", ("least", *names), "h"), ("l", ("greatest", *names), "+", "h"))


def is_right_plainly(frame, layout):
    worlds = worlds_of(frame)
    return bool(worlds) and all(len(parts_plainly(frame, layout, world, key)) == 1
                                for world in worlds for key in keys_of(world))


def by_search(frame, layout, most):
    """The first of the fewest facts by which the layout is right, of up to so many."""
    names, facts = frame
    new = [(one, "upto", other) for one in names for other in names if one != other]
    for many in range(most + 1):
        for some in combinations(new, many):
            if is_right_plainly((names, facts + some), layout):
                return some
    return None


class Wanted(unittest.TestCase):
    def test_against_all_facts(self):
        found = set()
        for at, frame in enumerate(few_frames()):
            if len(frame[0]) > 3:
                continue
            layouts = [chain(*frame[0]), chain(*frame[0][::-1]), apart(frame[0])]
            for layout in layouts + any_layouts(frame, 25, at) + right_layouts(frame, 2, at):
                expected = by_search(frame, layout, len(frame[0]) * (len(frame[0]) - 1))
                self.assertEqual(wanted_facts(frame, layout), expected, (frame, layout))
                found.add(expected and len(expected))
        self.assertTrue({None, 1, 2, 3} <= found)

    def test_four_names(self):
        names = tuple("abcd")
        found = set()
        for facts in ((), (("a", "upto", "b"),), (("d", "ahead", "a"),), (("c", "upto", "d"), ("d", "upto", "c"))):
            frame = (names, facts)
            for layout in (chain("a", "b", "c"), chain("b", "a", "d"), chain("c", "d", "a"), chain("d", ("least", "b", "c"), "a")):
                expected = by_search(frame, layout, 3)
                told = wanted_facts(frame, layout)
                found.add(told and len(told))
                if expected is None:
                    self.assertTrue(told is None or len(told) > 3)
                else:
                    self.assertEqual(told, expected)
        self.assertTrue({None, 1, 2} <= found)

    def test_right_ones_want_nothing(self):
        for at, frame in enumerate(few_frames()):
            for layout in right_layouts(frame, 3, at):
                self.assertEqual(wanted_facts(frame, layout), ())

    def test_some_facts(self):
        for layout, facts in (
                (chain("a", "b"), (("a", "upto", "b"),)), (chain("b", "a"), (("b", "upto", "a"),)), (chain("a"), ()),
                ((("k", "-", "a", "h"), ("l", "b", "+", "h")), (("a", "upto", "b"), ("b", "upto", "a"))),
                ((), None), (chain("a") + (("z", "-", "+", "h"),), None), (chain("a")[:1], None), (chain("a")[1:], None),
                (chain("a") + (("z", "a", "b", "h"),), (("b", "upto", "a"),))):
            self.assertEqual(wanted_facts(AB, layout), facts)

    def test_of_as_few_the_first_ones(self):
        # A KEY of ("least", a, b) .. c: a upto c, or b upto c, is enough.
        frame = (("a", "b", "c"), ())
        self.assertEqual(wanted_facts(frame, chain(("least", "a", "b"), "c")), (("a", "upto", "c"),))
        self.assertEqual(wanted_facts(frame, chain("c", ("greatest", "a", "b"))), (("c", "upto", "a"),))
        # c has to be upto a and upto b: so it is if it is upto a, and a upto b.
        self.assertEqual(wanted_facts(frame, chain("c", ("least", "a", "b"))), (("a", "upto", "b"), ("c", "upto", "a")))
        self.assertEqual(wanted_facts(frame, chain("b", "c", "a")), (("b", "upto", "c"), ("c", "upto", "a")))

    def test_there_have_to_be_worlds(self):
        for facts, found in (((("b", "ahead", "a"),), None), ((("b", "upto", "a"),), (("a", "upto", "b"),)),
                             ((("a", "ahead", "b"),), ())):
            self.assertEqual(wanted_facts((("a", "b"), facts), chain("a", "b")), found)
        frame = (("a", "b", "c"), (("b", "ahead", "c"),))
        self.assertIsNone(wanted_facts(frame, chain("c", "b")))
        self.assertEqual(wanted_facts(frame, chain("a", "b")), (("a", "upto", "b"),))
        # What is upto b is upto c as well: so the FACT that comes first is told.
        for bound in ("c", ("greatest", "b", "c")):
            self.assertEqual(wanted_facts(frame, chain("a", bound)), (("a", "upto", "b"),))

    def test_five_names(self):
        frame = (FIVE, ())
        self.assertEqual(wanted_facts(frame, chain(*FIVE)), tuple((low, "upto", high) for low, high in zip(FIVE, FIVE[1:])))
        every = apart(FIVE)
        ring = tuple((low, "upto", high) for low, high in zip(FIVE, FIVE[1:] + FIVE[:1]))
        self.assertEqual(wanted_facts(frame, every), ring)
        self.assertIsNone(wanted_facts((FIVE, (("d", "ahead", "b"),)), every))
        self.assertIsNone(wanted_facts(frame, ()))
        two = (("k", "-", ("greatest", "a", "b"), "h"), ("l", ("greatest", "a", "b"), ("least", "c", "d", "e"), "h"),
               ("m", ("least", "c", "d", "e"), "+", "h"))
        self.assertEqual(wanted_facts(frame, two), (("a", "upto", "b"), *[("b", "upto", high) for high in "cde"]))

    def test_five_names_by_their_cuts(self):
        new = [(one, "upto", other) for one in FIVE for other in FIVE if one != other]
        found = set()
        for seed, facts in enumerate(((), (("e", "ahead", "a"),), (("b", "upto", "d"), ("c", "ahead", "d")))):
            every = all_cuts((FIVE, facts))
            barred = [sum(1 << at for at, cut in enumerate(every) if other in cut and one not in cut) for one, _, other in new]
            for layout in any_layouts((FIVE, ()), 25, seed) + [chain("b", "d", "a", "e"), chain("c", "a", "d")]:
                lots = [[has_plainly(cut, low) and not has_plainly(cut, high) for _, low, high, _ in layout] for cut in every]
                wrong = sum(1 << at for at, lot in enumerate(lots) if sum(lot) != 1)
                expected = None
                for many in range(6):
                    for some in combinations(range(20), many):
                        gone = 0
                        for at in some:
                            gone |= barred[at]
                        if not wrong & ~gone and worlds_of((FIVE, facts + tuple(new[at] for at in some))):
                            expected = tuple(new[at] for at in some)
                            break
                    if expected is not None:
                        break
                told = wanted_facts((FIVE, facts), layout)
                found.add(told and len(told))
                if expected is not None or told is None or len(told) < 6:
                    self.assertEqual(told, expected)
        self.assertTrue({None, 1, 2, 3} <= found, found)

    def test_too_many_names(self):
        for many in (6, 7):
            frame = (tuple("abcdefg"[:many]), ())
            for layout in ((), chain("a"), chain("a", "b")):
                with self.assertRaises(TooMany) as caught:
                    wanted_facts(frame, layout)
                self.assertEqual(caught.exception.most, 5)
        full = (tuple("abcdef"), (("a", "upto", "c"),) * 60)
        self.assertRaises(TooMany, wanted_facts, full, chain("a", "b"))

    def test_too_many_facts(self):
        fact = ("a", "upto", "c")
        names = ("a", "b", "c", "d")
        both = chain("a", "b", "d")
        wanted = (("a", "upto", "b"), ("b", "upto", "d"))
        for many in (0, 57, 58):
            self.assertEqual(wanted_facts((names, (fact,) * many), both), wanted)
        for many in (59, 60):
            self.assertRaises(BadQuestion, wanted_facts, (names, (fact,) * many), both)
            self.assertEqual(wanted_facts((names, (fact,) * many), chain("a", "c")), ())
            self.assertIsNone(wanted_facts((names, (fact,) * many), ()))
        self.assertEqual(wanted_facts((names, (fact,) * 59), chain("a", "b")), wanted[:1])
        self.assertRaises(BadQuestion, wanted_facts, (names, (fact,) * 60), chain("a", "b"))

    def test_errors(self):
        self.assertRaises(BadFrame, wanted_facts, None, None)
        for thing in WRONG:
            if not (isinstance(thing, tuple) and thing == ()):
                self.assertRaises(BadLayout, wanted_facts, AB, thing)
        self.assertRaises(BadLayout, wanted_facts, (tuple("abcdef"), ()), (None,))

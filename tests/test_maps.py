import unittest
from itertools import combinations

from namedcuts.cuts import cuts
from namedcuts.errors import BadCuts, BadFrame, BadLayout, BadPaper, BadQuestion
from namedcuts.layouts import parts_of
from namedcuts.maps import check_range, map_of, moved, on_range, route_alike
from namedcuts.terms import has, normal
from plain import any_layouts, right_layouts
from trials import ODD, WRONG, few_frames, nested

AB = (("a", "b"), ())
ABC = (("a", "b", "c"), ())
LINE = (("x", "-", "a", "hut"), ("y", "a", ("greatest", "a", "b"), "home"), ("z", ("greatest", "a", "b"), "+", "home"))


def tried():
    for at, frame in enumerate(few_frames()):
        yield frame, right_layouts(frame, 3, at) + any_layouts(frame, 14, at)


def has_map(frame, layout):
    return all(len(parts_of(frame, layout, cut)) < 2 for cut in cuts(frame))


def within(one, other):
    return set(one) <= set(other)


class Maps(unittest.TestCase):
    def test_maps_by_all_cuts(self):
        gaps = set()
        for frame, layouts in tried():
            for layout in layouts:
                if has_map(frame, layout):
                    found = tuple((parts_of(frame, layout, cut) or (None,))[0] for cut in cuts(frame))
                    self.assertEqual(map_of(frame, layout), found)
                    gaps.add(None in found)
                else:
                    self.assertRaises(BadQuestion, map_of, frame, layout)
        self.assertEqual(gaps, {True, False})

    def test_some_maps(self):
        self.assertEqual(map_of(AB, LINE), ("x", "y", "x", "z"))
        self.assertEqual(map_of(AB, LINE[1:]), (None, "y", None, "z"))
        self.assertEqual(map_of(AB, ()), (None,) * 4)
        self.assertEqual(map_of((("a", "b"), (("a", "upto", "b"),)), LINE), ("x", "y", "z"))
        for layout in (LINE + (("zz", "a", "b", "h"),), (("x", "-", "b", "h"), ("y", "a", "+", "h"))):
            self.assertRaises(BadQuestion, map_of, AB, layout)
        # In another FRAME the same PARTs are apart.
        self.assertEqual(map_of((("a", "b"), (("b", "upto", "a"),)), (("x", "-", "b", "h"), ("y", "a", "+", "h"))),
                         ("x", None, "y"))

    def test_two_layouts(self):
        for frame, layouts in tried():
            layouts = [layout for layout in layouts if has_map(frame, layout)]
            for one in layouts:
                for other in layouts:
                    first, second = map_of(frame, one), map_of(frame, other)
                    self.assertIs(route_alike(frame, one, other), first == second)
                    self.assertEqual(moved(frame, one, other), tuple(
                        (cut, source, target) for cut, source, target in zip(cuts(frame), first, second) if source != target))

    def test_some_moves(self):
        later = (("w", "-", "a", "hut"), ("y", "a", "+", "home"))
        self.assertEqual(moved(AB, LINE, later), (((), "x", "w"), (("b",), "x", "w"), (("a", "b"), "z", "y")))
        self.assertEqual(moved(AB, LINE, LINE), ())
        self.assertEqual(moved(AB, LINE[1:], LINE[:2]), (((), None, "x"), (("b",), None, "x"), (("a", "b"), "z", None)))
        self.assertEqual(moved(AB, (), LINE[:1]), (((), None, "x"), (("b",), None, "x")))
        # HOUSEs, and bounds that are SAME, make no MAP another one.
        same = (("x", "-", ("least", "a", ("greatest", "a", "b")), "h"), ("y", "a", ("greatest", "b", "a"), "h"), LINE[2])
        self.assertIs(route_alike(AB, LINE, same), True)
        self.assertIs(route_alike(AB, LINE, LINE[:2]), False)
        self.assertIs(route_alike(AB, (), (("q", "b", "-", "h"),)), True)

    def test_errors_of_both_come_ahead_of_questions(self):
        twice = (("x", "-", "+", "h"), ("y", "-", "+", "h"))
        for call in (route_alike, moved):
            self.assertRaises(BadFrame, call, None, None, None)
            for one, other in ((twice, LINE), (LINE, twice), (twice, twice), (twice, ())):
                self.assertRaises(BadQuestion, call, AB, one, other)
            for one, other, number in ((None, (None,), None), ((None,), None, 0), (twice, None, None), (twice, (LINE[0], None), 1)):
                with self.assertRaises(BadLayout) as caught:
                    call(AB, one, other)
                self.assertEqual((caught.exception.part, caught.exception.number), ("form", number))
        self.assertRaises(BadFrame, map_of, None, None)

    def test_layouts_of_anything(self):
        for thing in WRONG:
            if isinstance(thing, tuple) and thing == ():
                continue
            self.assertRaises(BadLayout, map_of, AB, thing)
            for call in (route_alike, moved):
                self.assertRaises(BadLayout, call, AB, thing, LINE)
                self.assertRaises(BadLayout, call, AB, LINE, thing)


class Ranges(unittest.TestCase):
    def refused(self, part, frame, some, paper):
        with self.assertRaises(BadPaper) as caught:
            check_range(frame, some, paper)
        self.assertEqual(caught.exception.part, part, (frame, some, paper))

    def bad(self, some, frame=AB):
        for call in (lambda: on_range(frame, some), lambda: check_range(frame, some, None)):
            with self.assertRaises(BadCuts) as caught:
                call()
            self.assertIs(caught.exception.given, some)

    def test_papers_on_all_cuts(self):
        words = set()
        for frame in few_frames() + [(tuple("abcd"), (("a", "upto", "b"), ("c", "upto", "d")))]:
            every = cuts(frame)
            for many in range(min(len(every), 4) + 1):
                for some in list(combinations(every, many))[:150]:
                    self.shows(frame, some[::-1] if many % 2 else some, words)
            self.shows(frame, every, words)
            self.shows(frame, every[::-1], words)
        self.assertEqual(words, {"range", "three", "empty"})

    def shows(self, frame, some, words):
        paper = on_range(frame, some)
        words.add(paper[0])
        self.assertEqual(check_range(frame, some, paper), paper[0])
        self.assertEqual(paper, on_range(frame, some[::-1]))
        split = [(one, two, three) for two in cuts(frame) if two not in some for one in some if within(one, two)
                 for three in some if within(two, three)]
        if not some:
            self.assertEqual(paper, ("empty",))
        elif split:
            self.assertIn(paper[1:], split)
        else:
            self.assertEqual(len(paper), 3)
            self.assertEqual(paper[1:], tuple(normal(frame, term) for term in paper[1:]))
            for cut in cuts(frame):
                above = any(within(one, cut) for one in some)
                self.assertEqual((has(frame, cut, paper[1]), has(frame, cut, paper[2])), (above, above and cut not in some))

    def test_some_ranges(self):
        for some, paper in (((), ("empty",)), (cuts(AB), ("range", "-", "+")), (((),), ("range", "-", ("least", "a", "b"))),
                            ((("a",),), ("range", "a", ("greatest", "a", "b"))), ((("a", "b"),), ("range", ("greatest", "a", "b"), "+")),
                            ((("b",), ("a",)), ("range", ("least", "a", "b"), ("greatest", "a", "b"))),
                            ((("a", "b"), ("a",)), ("range", "a", "+")), (((), ("b",)), ("range", "-", "a"))):
            self.assertEqual(on_range(AB, some), paper)
        self.assertEqual(on_range((("a",), ()), ((),)), ("range", "-", "a"))
        word, low, middle, high = on_range(AB, (("a", "b"), ()))
        self.assertEqual((word, low, high), ("three", (), ("a", "b")))
        self.assertIn(middle, (("a",), ("b",)))
        self.assertEqual(on_range(AB, (("a", "b"), ("a",), ())), ("three", (), ("b",), ("a", "b")))

    def test_no_tuple_of_unlike_cuts(self):
        for thing in WRONG:
            if not (isinstance(thing, tuple) and thing in ((), ((),), (("a",),))):
                self.bad(thing)
        for some in ([("a",)], (("a",), ["b"]), (("a",), ("a",)), ((), ("b",), ()), (("b", "a"),), (("a", "a"),), (("c",),),
                     ("a",), (("a",), None), (("a",), ODD), (("a",), (ODD,)), (("a", "b", "c"),), "ab", ({},), (("a",), {}),
                     (nested(40),), (("a",), ("b",), ("a", "b"), (), ("b",))):
            self.bad(some)
        self.bad((("b",),), (("a", "b"), (("a", "upto", "b"),)))
        self.assertRaises(BadFrame, on_range, None, None)
        self.assertRaises(BadFrame, check_range, None, None, None)

    def test_ranges_in_another_form(self):
        some = (("b",), ("a", "b"))
        self.assertEqual(on_range(AB, some), ("range", "b", "+"))
        for low, high in (("b", "+"), (("least", "b", ("greatest", "a", "b")), ("greatest", "+", "a")), (("least", "b"), "+")):
            self.assertEqual(check_range(AB, some, ("range", low, high)), "range")
        # HI may be HAD by other CUTS than those that HAVE LO.
        for high in (("greatest", "a", "b"), "a", ("least", "a", "a")):
            self.assertEqual(check_range(AB, (("b",),), ("range", "b", high)), "range")
        for low, high in (("b", "a"), ("a", "+"), ("-", "+"), ("b", "-"), ("+", "+"), ("b", ("greatest", "a", "b"))):
            self.refused("range", AB, some, ("range", low, high))
        for low, high in (("-", "-"), ("+", "+"), ("a", "a"), ("b", "-")):
            self.refused("range", AB, (), ("range", low, high))
        self.refused("range", AB, (("a", "b"), ()), ("range", "-", "+"))

    def test_threes(self):
        some = ((), ("a", "b"), ("a", "b", "c"))
        for three in (((), ("a",), ("a", "b")), ((), ("a", "c"), ("a", "b", "c")), ((), ("c",), ("a", "b", "c"))):
            self.assertEqual(check_range(ABC, some, ("three", *three)), "three")
            self.refused("three", ABC, some, ("three", *three[::-1]))
            self.refused("three", ABC, some + (three[1],), ("three", *three))
            self.refused("three", ABC, some[1:], ("three", *three))
            self.refused("three", ABC, some[:1], ("three", *three))
            self.refused("three", ABC, (), ("three", *three))
        for three in (((), ("c",), ("a", "b")), (("a",), ("a", "c"), ("a", "b", "c")), ((), ("a", "b"), ("a", "b", "c")),
                      (("a", "b"), ("a", "c"), ("a", "b", "c")), ((), (), ()), ((), ("a",), ("a",)), ((), ("a",), ("a", "c"))):
            self.refused("three", ABC, some, ("three", *three))

    def test_empty(self):
        self.assertEqual(check_range(AB, (), ("empty",)), "empty")
        for some in (((),), (("a",),), cuts(AB), ((), ("a", "b"))):
            self.refused("empty", AB, some, ("empty",))

    def test_wrong_forms(self):
        papers = WRONG + (("empty", ()), ["empty"], "empty", ("Empty",), ("range",), ("range", "a"), ("range", "a", "b", "+"),
                          ["range", "a", "b"], ("range", "a", "c"), ("range", None, "b"), ("range", "a", ("lo", "x")),
                          ("range", ("least",), "a"), ("range", "a", ["b"]), ("range", (), ()), ("three", (), (), (), ()),
                          ("three", (), ("a",)), ["three", (), ("a",), ("a", "b")], ("three", (), ("c",), ("a", "b")),
                          ("three", (), ["a"], ("a", "b")), ("three", (), ("a",), ("b", "a")), ("three", None, (), ()),
                          ("three", ODD, ("a",), ("a", "b")), (ODD, "a", "b"), (ODD, (), (), ()), ("three", "a", "b", "+"),
                          ("range", ODD, "a"), ("", ), ("three", (), (ODD,), ("a", "b")), ("world", (), ()))
        for paper in papers:
            for some in ((), (("a",),), ((), ("a", "b"))):
                self.refused("form", AB, some, paper)

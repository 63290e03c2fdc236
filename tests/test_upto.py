import unittest

from namedcuts.errors import BadPaper
from namedcuts.terms import check_upto, greatests, leasts, upto, upto_paper
from trials import ODD, WRONG, few_frames, keeps, number_of, terms_to_try

ABCD = (("a", "b", "c", "d"), (("a", "upto", "c"), ("b", "ahead", "d"), ("c", "upto", "d")))


class Papers(unittest.TestCase):
    def bad(self, part, frame, one, other, paper):
        with self.assertRaises(BadPaper) as caught:
            check_upto(frame, one, other, paper)
        self.assertEqual(caught.exception.part, part, (frame, one, other, paper))

    def shows_ways(self, frame, one, other, ways):
        pairs = [(low, high) for low in leasts(frame, one) for high in greatests(frame, other)]
        facts = {(fact[0], fact[2]) for fact in frame[1]}
        self.assertEqual(len(ways), len(pairs))
        for way, (low, high) in zip(ways, pairs):
            self.assertTrue(way[0] in low and way[-1] in high)
            self.assertTrue(set(zip(way, way[1:])) <= facts)

    def test_papers_that_are_told_hold(self):
        for frame in few_frames():
            terms = terms_to_try(frame[0], 25, 17)[::2]
            for one in terms:
                for other in terms:
                    paper = upto_paper(frame, one, other)
                    self.assertEqual(check_upto(frame, one, other, paper), paper[0])
                    if upto(frame, one, other):
                        self.assertEqual((paper[0], len(paper)), ("ways", 2))
                        self.shows_ways(frame, one, other, paper[1])
                    else:
                        word, world, key = paper
                        self.assertEqual(word, "world")
                        self.assertTrue(keeps(*frame, world))
                        at = dict(zip(frame[0], world))
                        self.assertTrue(number_of(other, at) <= key < number_of(one, at))

    def test_ends_need_no_way(self):
        for one, other in (("-", "a"), ("a", "+"), ("-", "-"), ("-", "+"), ("+", "+")):
            self.assertEqual(upto_paper(ABCD, one, other), ("ways", ()))
            self.assertEqual(check_upto(ABCD, one, other, ("ways", ())), "ways")
            self.bad("ways", ABCD, one, other, ("ways", (("a",),)))
            self.bad("ways", ABCD, one, other, ("ways", ((),)))
            self.bad("world", ABCD, one, other, ("world", (1, 1, 2, 3), 1))

    def test_ways_that_do_not_hold(self):
        one, other = ("least", "a", "b"), ("greatest", "c", "d")
        self.assertEqual(check_upto(ABCD, "a", "d", ("ways", (("a", "c", "d"),))), "ways")
        for ways in ((), (("a", "d"),), (("d", "c", "a"),), (("a", "c"),), (("c", "d"),), (("a", "c", "d"),) * 2, ((),),
                     (("a",),), (("b", "d"),), (("a", "c", "d", "c"),), (("a", "a", "c", "d"),)):
            self.bad("ways", ABCD, "a", "d", ("ways", ways))
        word, ways = upto_paper(ABCD, one, other)
        self.assertEqual((word, len(ways)), ("ways", 1))
        self.assertEqual(check_upto(ABCD, one, other, ("ways", (("b", "d"),))), "ways")
        self.bad("ways", ABCD, one, other, ("ways", ()))
        self.bad("ways", ABCD, "d", "a", ("ways", (("a", "c", "d"),)))
        self.bad("ways", ABCD, "d", "a", ("ways", ()))

    def test_ways_stand_in_their_order(self):
        one, other = ("greatest", "a", "b"), ("least", "c", "d")
        frame = (("a", "b", "c", "d"), tuple((low, "upto", high) for low in "ab" for high in "cd"))
        ways = (("a", "c"), ("a", "d"), ("b", "c"), ("b", "d"))
        self.assertEqual(upto_paper(frame, one, other), ("ways", ways))
        self.assertEqual(check_upto(frame, one, other, ("ways", ways)), "ways")
        for at in range(4):
            self.bad("ways", frame, one, other, ("ways", ways[:at] + ways[at + 1:]))
            self.bad("ways", frame, one, other, ("ways", ways[:at] + ways[at:at + 1] + ways[at:]))
            self.bad("ways", frame, one, other, ("ways", ways[:at] + (ways[at][::-1],) + ways[at + 1:]))
        self.bad("ways", frame, one, other, ("ways", (ways[0], ways[2], ways[1], ways[3])))
        self.bad("ways", frame, one, other, ("ways", (ways[1], ways[0], ways[2], ways[3])))

    def test_a_way_may_be_longer_than_it_need(self):
        frame = (("a", "b", "c"), (("a", "upto", "b"), ("b", "upto", "a"), ("b", "ahead", "c"), ("a", "upto", "c")))
        for way in (("a", "c"), ("a", "b", "c"), ("a", "b", "a", "b", "c")):
            self.assertEqual(check_upto(frame, "a", "c", ("ways", (way,))), "ways")
        # Of the equal names a and b the first alone is among the leasts.
        self.bad("ways", frame, "b", "c", ("ways", (("b", "c"),)))

    def test_worlds_that_do_not_hold(self):
        self.assertEqual(check_upto(ABCD, "d", "a", ("world", (1, 1, 1, 2), 1)), "world")
        self.assertEqual(check_upto(ABCD, "+", "a", ("world", (1, 1, 1, 2), 1)), "world")
        self.assertEqual(check_upto(ABCD, "d", "-", ("world", (1, 1, 1, 2), 0)), "world")
        for world, key in (((1, 1, 1, 2), 0), ((1, 1, 1, 2), 2), ((2, 1, 1, 2), 1), ((1, 2, 1, 2), 1), ((1, 1, 1), 1),
                           ((), 1), ((True, 1, 1, 2), 1), (("a", 1, 1, 2), 1), ((None,), 1), ((1, 1, 1, 2, 3), 1)):
            self.bad("world", ABCD, "d", "a", ("world", world, key))
        self.bad("world", ABCD, "a", "d", ("world", (1, 1, 1, 2), 1))

    def test_wrong_forms(self):
        world = (1, 1, 1, 2)
        papers = WRONG + (("ways",), ("ways", (), ()), ("ways", [("a", "c")]), ("ways", (["a", "c"],)), ("ways", ("a",)),
                          ("ways", (("a", "z"),)), ("ways", (("a", 1),)), ("ways", None), ["ways", ()], ("Ways", ()),
                          ("world", world), ("world", world, True), ("world", world, None), ("world", list(world), 1),
                          ("world", world, 1, 1), ["world", world, 1], ("world", None, 1), ("ring", ()), (ODD, ()),
                          (ODD, world, 1), ("world", world, ODD), ("ways", (ODD,)), ("ways", ((ODD,),)), (["ways"], ()),
                          ("world", 1, world), ("ways", world, 1), ("world", ()), ("ways", (("a", "c", "d"), None)))
        for paper in papers:
            self.bad("form", ABCD, "a", "d", paper)
            self.bad("form", ABCD, "d", "a", paper)

    def test_a_paper_is_not_changed(self):
        ways = [["a", "c"]]
        self.bad("form", ABCD, "a", "c", ("ways", ways))
        self.assertEqual(ways, [["a", "c"]])

import unittest

from namedcuts.errors import BadFrame, BadName, BadPaper, BadQuestion
from namedcuts.frames import (a_world, check_facts, facts_paper, is_world, need_frame, needless_facts, same_worlds,
                              told, way, with_facts)
from trials import ODD, WRONG, all_small_forms, frames_to_try, keeps, mixed_forms, nested, orders, worlds_of

SEVEN = tuple("abcdefg")
AB = (("a", "b"), ())
RING = (("a", "b"), (("a", "ahead", "b"), ("b", "upto", "a")))


class Cases(unittest.TestCase):
    def refused(self, part, number, call, *given):
        with self.assertRaises(BadFrame) as caught:
            call(*given)
        self.assertEqual((caught.exception.part, caught.exception.number), (part, number), given)
        self.assertIsNot(caught.exception.number, False)

    def bad_name(self, name, call, *given):
        with self.assertRaises(BadName) as caught:
            call(*given)
        self.assertIs(caught.exception.given, name)

    def bad_paper(self, part, call, *given):
        with self.assertRaises(BadPaper) as caught:
            call(*given)
        self.assertEqual(caught.exception.part, part, given)


class Forms(Cases):
    def test_frames_are_told_as_they_are(self):
        many = tuple(("a", "upto", "b") for _ in range(60))
        frames = ((("a",), ()), (SEVEN, ()), (("abcdef", "abcdeg"), ()), (("a", "aa", "z"), ()), (("a", "b"), many))
        for frame in frames:
            self.assertIs(need_frame(frame), frame)

    def test_form(self):
        for thing in WRONG + (nested(60), [AB[0], ()], (("a",), (), ()), (("a",),)):
            if isinstance(thing, tuple) and len(thing) == 2:
                continue
            self.refused("form", None, need_frame, thing)

    def test_names(self):
        for names in WRONG + (SEVEN + ("h",), ["a"]):
            if not isinstance(names, tuple) or not 1 <= len(names) <= 7:
                self.refused("names", None, need_frame, (names, ()))
                self.refused("names", None, need_frame, (names, None))
        for name in WRONG + ("a1", "Aa", "a-"):
            self.refused("names", 0, need_frame, ((name,), ()))
            self.refused("names", 1, need_frame, (("a", name, None), ()))
        self.refused("names", 1, need_frame, (("a", "a"), ()))
        self.refused("names", 1, need_frame, (("b", "a"), None))
        self.refused("names", 2, need_frame, (("a", "c", "b", "A"), ()))
        self.refused("names", 6, need_frame, (tuple("abcdef") + ("abcdefg",), ()))

    def test_facts(self):
        many = tuple(("a", "upto", "b") for _ in range(61))
        for facts in [thing for thing in WRONG if not isinstance(thing, tuple)] + [many, [("a", "upto", "b")]]:
            self.refused("facts", None, need_frame, (("a", "b"), facts))
        wrong = [("a", "upto", "a"), ("a", "upto", "c"), ("c", "upto", "a"), ("a", "below", "b"), ("a", "UPTO", "b"),
                 ("a", "upto"), ("a", "upto", "b", "c"), ["a", "upto", "b"], ("a", None, "b"), (["a"], "upto", "b"),
                 ("a", ["upto"], "b"), ("a", "upto", {}), (ODD, "upto", "b"), ("a", ODD, "b"), ("a", "upto", ODD)]
        for fact in wrong + list(WRONG):
            self.refused("facts", 0, need_frame, (("a", "b"), (fact,)))
            self.refused("facts", 2, need_frame, (("a", "b"), (("a", "upto", "b"), ("b", "upto", "a"), fact, None)))

    def test_ring_comes_behind_all(self):
        self.refused("ring", None, need_frame, RING)
        self.refused("facts", 2, need_frame, (RING[0], RING[1] + (("a", "upto", "a"),)))
        facts = (("a", "upto", "b"), ("b", "ahead", "c"), ("c", "upto", "a"))
        self.refused("ring", None, need_frame, (("a", "b", "c"), facts))

    def test_ring_exactly_if_no_world(self):
        for form in list(all_small_forms()) + list(mixed_forms(1, 300, 4, 8)):
            if worlds_of(form):
                self.assertIs(need_frame(form), form)
            else:
                self.refused("ring", None, need_frame, form)

    def test_each_function_refuses_a_frame_first(self):
        calls = [(is_world, 1), (a_world, 0), (told, 2), (way, 2), (with_facts, 1), (same_worlds, 1),
                 (needless_facts, 0)]
        for call, more in calls:
            for thing in (None, ODD, [1], {}):
                self.refused("form", None, call, thing, *[None] * more)
            self.refused("ring", None, call, RING, *[None] * more)
        self.refused("form", None, same_worlds, AB, [])
        self.refused("form", None, same_worlds, None, (("b", "a"), ()))
        for call, given in ((facts_paper, ()), (check_facts, (None,))):
            self.refused("form", None, call, [], *given)
            self.refused("names", 1, call, (("b", "a"), ()), *given)
            self.refused("facts", 0, call, (("a", "b"), (("a", "upto", "a"),)), *given)


class Worlds(Cases):
    def test_is_world(self):
        for frame in frames_to_try():
            for ranks in orders(len(frame[0])):
                self.assertIs(is_world(frame, ranks), keeps(*frame, ranks))

    def test_is_world_of_anything(self):
        for thing in WRONG + (nested(60), [1, 2], (1, True), (False, 1), (1,), (1, 2, 3), (1, "2"), (None, 2)):
            self.assertIs(is_world(AB, thing), False, thing)
        self.assertIs(is_world((("a",), ()), (True,)), False)
        self.assertIs(is_world((("a",), ()), (1,)), True)
        self.assertIs(is_world(AB, (10 ** 39, -10 ** 39)), True)

    def test_a_world(self):
        for frame in frames_to_try():
            world = a_world(frame)
            self.assertIsInstance(world, tuple)
            self.assertTrue(all(type(item) is int for item in world))
            self.assertTrue(keeps(*frame, world), frame)
            self.assertEqual(world, a_world(frame))

    def test_with_facts(self):
        frame = (("a", "b", "c"), (("a", "upto", "b"),))
        more = (("b", "ahead", "c"), ("a", "upto", "b"))
        self.assertEqual(with_facts(frame, more), (frame[0], frame[1] + more))
        self.assertEqual(with_facts(frame, ()), frame)
        for facts in [thing for thing in WRONG if not isinstance(thing, tuple)] + [list(more), (more[0],) * 60]:
            self.refused("facts", None, with_facts, frame, facts)
        self.assertEqual(len(with_facts(frame, (more[0],) * 59)[1]), 60)
        self.refused("facts", 1, with_facts, frame, (None,))
        self.refused("facts", 2, with_facts, frame, (more[0], ("b", "upto", "b")))
        self.refused("facts", 1, with_facts, frame, ("a", "upto", "c"))
        self.refused("ring", None, with_facts, frame, (("b", "ahead", "a"),))

    def test_nothing_passed_is_changed(self):
        frame = (("a", "b"), (("a", "upto", "b"),))
        rows = [["a", "upto", "b"]]
        for call in (lambda: with_facts(frame, rows), lambda: is_world(frame, rows), lambda: need_frame((rows, rows))):
            try:
                call()
            except BadFrame:
                pass
            self.assertEqual((frame, rows), ((("a", "b"), (("a", "upto", "b"),)), [["a", "upto", "b"]]))


class Told(Cases):
    def is_way(self, frame, names, strict):
        facts = set(frame[1])
        steps = list(zip(names, names[1:]))
        self.assertTrue(all((one, "upto", other) in facts or (one, "ahead", other) in facts for one, other in steps))
        if strict:
            self.assertTrue(any((one, "ahead", other) in facts for one, other in steps), (frame, names))

    def test_told_and_way_by_all_orders(self):
        for frame in frames_to_try():
            worlds = [dict(zip(frame[0], world)) for world in worlds_of(frame)]
            for one in frame[0]:
                for other in frame[0]:
                    word = None
                    if all(world[one] <= world[other] for world in worlds):
                        word = "upto"
                    if all(world[one] < world[other] for world in worlds):
                        word = "ahead"
                    self.assertEqual(told(frame, one, other), word, (frame, one, other))
                    names = way(frame, one, other)
                    if word is None:
                        self.assertIsNone(names)
                        continue
                    self.assertIsInstance(names, tuple)
                    self.assertEqual((names[0], names[-1]), (one, other))
                    self.is_way(frame, names, word == "ahead")

    def test_of_one_name(self):
        self.assertEqual(told(AB, "a", "a"), "upto")
        self.assertEqual(way(AB, "a", "a"), ("a",))

    def test_a_strict_way_is_taken_though_it_is_longer(self):
        frame = (("a", "b", "c"), (("a", "upto", "c"), ("a", "upto", "b"), ("b", "ahead", "c")))
        self.assertEqual(way(frame, "a", "c"), ("a", "b", "c"))
        self.assertEqual(told((("a", "b"), (("a", "upto", "b"), ("a", "ahead", "b"))), "a", "b"), "ahead")

    def test_a_ring_of_upto_makes_names_equal(self):
        facts = (("a", "upto", "b"), ("b", "upto", "c"), ("c", "upto", "a"), ("c", "ahead", "d"))
        frame = (("a", "b", "c", "d"), facts)
        for one in "abc":
            for other in "abc":
                self.assertEqual(told(frame, one, other), "upto")
            self.assertEqual(told(frame, one, "d"), "ahead")
            self.assertIsNone(told(frame, "d", one))

    def test_seven_names_in_a_line(self):
        facts = tuple((one, "upto", other) for one, other in zip(SEVEN, SEVEN[1:]))
        self.assertEqual(way((SEVEN, facts), "a", "g"), SEVEN)
        self.assertEqual(told((SEVEN, facts), "a", "g"), "upto")
        self.assertEqual(told((SEVEN, facts + (("c", "ahead", "d"),)), "a", "g"), "ahead")
        self.assertEqual(told((SEVEN, facts + (("c", "ahead", "d"),)), "d", "g"), "upto")

    def test_bad_names(self):
        for call in (told, way):
            for thing in WRONG + ("c", nested(60)):
                self.bad_name(thing, call, AB, thing, "a")
                self.bad_name(thing, call, AB, "a", thing)
                self.bad_name(thing, call, AB, thing, ["b"])

    def test_same_worlds(self):
        frames = [frame for frame in frames_to_try() if frame[0] in (("a", "b"), ("a", "b", "c"))]
        for one in frames[::3]:
            for other in frames[::4]:
                if one[0] != other[0]:
                    self.assertRaises(BadQuestion, same_worlds, one, other)
                else:
                    self.assertIs(same_worlds(one, other), worlds_of(one) == worlds_of(other), (one, other))

    def test_needless_facts(self):
        for frame in frames_to_try():
            facts = frame[1]
            lacking = [(frame[0], facts[:at] + facts[at + 1:]) for at in range(len(facts))]
            wanted = tuple(at for at, less in enumerate(lacking) if worlds_of(less) == worlds_of(frame))
            self.assertEqual(needless_facts(frame), wanted, frame)

    def test_a_fact_twice_is_needless_each_time(self):
        fact = ("a", "upto", "b")
        self.assertEqual(needless_facts((("a", "b"), (fact, fact))), (0, 1))
        self.assertEqual(needless_facts((("a", "b"), (fact,))), ())
        self.assertEqual(needless_facts((("a", "b"), (fact, ("a", "ahead", "b")))), (0,))


class Papers(Cases):
    def test_papers_that_are_told_hold(self):
        for form in list(all_small_forms()) + list(mixed_forms(2, 300, 5, 9)):
            word, shown = facts_paper(form)
            if worlds_of(form):
                self.assertEqual(word, "world")
                self.assertTrue(keeps(*form, shown))
            else:
                self.assertEqual(word, "ring")
                self.assertEqual(shown[0], shown[-1])
                self.assertGreater(len(shown), 1)
                self.assertTrue(all((one, "upto", other) in form[1] or (one, "ahead", other) in form[1]
                                    for one, other in zip(shown, shown[1:])))
                self.assertTrue(any((one, "ahead", other) in form[1] for one, other in zip(shown, shown[1:])))
            self.assertEqual(check_facts(form, (word, shown)), word)

    def test_seven_names_in_a_ring(self):
        facts = tuple((one, "upto", other) for one, other in zip(SEVEN, SEVEN[1:])) + (("g", "ahead", "a"),)
        word, shown = facts_paper((SEVEN, facts))
        self.assertEqual((word, len(shown)), ("ring", 8))
        self.assertEqual(check_facts((SEVEN, facts), (word, shown)), "ring")

    def test_wrong_forms_of_papers(self):
        papers = WRONG + (("world",), ("world", (1, 2), 3), ("world", [1, 2]), ("world", (1, True)), ("world", ("a",)),
                          ("world", (1, None)), ("ring", ["a"]), ("ring", ("a", "c")), ("ring", ("a", 1)),
                          ("ring", "a"), ["world", (1, 2)], ("World", (1, 2)), ("ways", ()), (ODD, ()),
                          (["ring"], ()), ("ring", (ODD,)), ("world", 5), ("ring", ("a", True)))
        for form in (AB, RING):
            for paper in papers:
                self.bad_paper("form", check_facts, form, paper)

    def test_worlds_that_are_none(self):
        frame = (("a", "b"), (("a", "ahead", "b"),))
        self.assertEqual(check_facts(frame, ("world", (1, 2))), "world")
        for world in ((), (1,), (1, 1), (2, 1), (1, 2, 3)):
            self.bad_paper("world", check_facts, frame, ("world", world))
        self.bad_paper("world", check_facts, RING, ("world", (1, 2)))
        self.bad_paper("world", check_facts, RING, ("world", (1, 1)))

    def test_rings_that_are_none(self):
        form = (("a", "b", "c"), RING[1] + (("b", "upto", "c"), ("c", "upto", "b")))
        self.assertEqual(check_facts(form, ("ring", ("a", "b", "a"))), "ring")
        self.assertEqual(check_facts(form, ("ring", ("b", "a", "b"))), "ring")
        self.assertEqual(check_facts(form, ("ring", ("b", "c", "b", "a", "b"))), "ring")
        for names in ((), ("a",), ("a", "a"), ("a", "b"), ("b", "c", "b"), ("a", "c", "a"), ("a", "b", "c"),
                      ("b", "a", "b", "a")):
            self.bad_paper("ring", check_facts, form, ("ring", names))
        self.bad_paper("ring", check_facts, AB, ("ring", ("a", "b", "a")))

import unittest

from namedcuts.cases import alike, case_of, cases, first_fault, may_change, needless, parted, stages
from namedcuts.errors import BadBook, BadFrame, BadLayout, BadScript, BadWorld, TooMany
from namedcuts.frames import with_facts
from namedcuts.layouts import is_chain, is_right
from namedcuts.scripts import run_in
from namedcuts.terms import normal
from by_terms import cases_by_terms
from plain import BOOK, Plain, first_layouts, lies_in, mixed_scripts, outcome, parts_plainly, right_layouts
from trials import WRONG, few_frames, keeps, keys_of, number_of, worlds_of

AB = (("a", "b"), ())
ABC = (("a", "b", "c"), ())
ONE = (("p", "-", "+", "home"),)


def tried(many):
    """Frames, layouts and scripts on them, with not too many cases."""
    for at, frame in enumerate(few_frames()):
        for layout in first_layouts(frame) + right_layouts(frame, 1, at):
            for script in mixed_scripts(frame, many, 7 * at + len(layout)):
                if len(cases_by_terms(frame, BOOK, layout, script)) <= 200:
                    yield frame, layout, script


def valued(layout, frame, world):
    """A layout with the values of its bounds in a world."""
    values = dict(zip(frame[0], world))
    ends = {-10 ** 9: "-", 10 ** 9: "+"}
    bounds = [[number_of(term, values) for term in part[1:3]] for part in layout]
    return tuple((part[0], *[ends.get(number, number) for number in two], part[3]) for part, two in zip(layout, bounds))


class Cases(unittest.TestCase):
    def test_each_world_has_one_case_that_tells_its_outcome(self):
        for frame, layout, script in tried(25):
            told = cases(frame, BOOK, layout, script)
            for world in worlds_of(frame):
                kept = [at for at, case in enumerate(told) if keeps(frame[0], case[0], world)]
                self.assertEqual(len(kept), 1)
                self.assertEqual(case_of(frame, BOOK, layout, script, world), kept[0])
                _, word, number, behind = told[kept[0]]
                self.assertEqual((word, number, valued(behind, frame, world)), outcome(frame, BOOK, layout, script, world))
                self.assertEqual((word, number, valued(behind, frame, world)), run_in(frame, BOOK, layout, script, world))

    def test_the_order_of_cases_and_their_facts(self):
        for frame, layout, script in tried(30):
            told = cases(frame, BOOK, layout, script)
            expected = cases_by_terms(frame, BOOK, layout, script)
            self.assertEqual([case[0] for case in told], [case[0] for case in expected])
            for (facts, word, number, behind), (_, other_word, layouts) in zip(told, expected):
                self.assertEqual((word, number, behind), (other_word, len(layouts) - 1, layouts[-1][1]))
                new = with_facts(frame, facts)
                for part in behind:
                    self.assertEqual(part[1:3], (normal(new, part[1]), normal(new, part[2])))

    def test_some_cases(self):
        script = (("need", "a", "b"),)
        self.assertEqual(cases(AB, (), ONE, script), (((("a", "upto", "b"),), "done", 1, ONE),
                                                      ((("b", "ahead", "a"),), "stopped", 0, ONE)))
        # The pair is the same one if the question is turned about.
        self.assertEqual(cases(AB, (), ONE, (("need", "b", "a"),)), (
            ((("a", "upto", "b"), ("b", "upto", "a")), "done", 1, ONE),
            ((("a", "upto", "b"), ("a", "ahead", "b")), "stopped", 0, ONE),
            ((("b", "ahead", "a"),), "done", 1, ONE)))
        self.assertEqual(cases(AB, (), ONE, ()), (((), "done", 0, ONE),))

    def test_names_that_are_told_one_way(self):
        up, down = (("a", "b"), (("a", "upto", "b"),)), (("a", "b"), (("b", "upto", "a"),))
        self.assertEqual([case[0] for case in cases(up, (), ONE, (("need", "b", "a"),))],
                         [(("b", "upto", "a"),), (("a", "ahead", "b"),)])
        self.assertEqual([case[0] for case in cases(down, (), ONE, (("need", "a", "b"),))],
                         [(("a", "upto", "b"),), (("b", "ahead", "a"),)])
        for frame, word in ((up, "a"), (down, "b")):
            self.assertEqual(cases(frame, (), ONE, (("need", word, "a" if word == "b" else "b"),)), (((), "done", 1, ONE),))
        strict = (("a", "b"), (("b", "ahead", "a"),))
        self.assertEqual(cases(strict, (), ONE, (("need", "a", "b"),)), (((), "stopped", 0, ONE),))

    def test_equal_names(self):
        frame = (("a", "b", "c"), (("a", "upto", "b"), ("b", "upto", "a")))
        self.assertEqual([case[0] for case in cases(frame, (), ONE, (("need", "b", "c"),))],
                         [(("a", "upto", "c"),), (("c", "ahead", "a"),)])
        self.assertEqual([case[0] for case in cases(frame, (), ONE, (("need", "c", ("greatest", "b", "a")),))],
                         [(("a", "upto", "c"), ("c", "upto", "a")), (("a", "upto", "c"), ("a", "ahead", "c")),
                          (("c", "ahead", "a"),)])

    def test_only_names_of_the_normal_forms_are_compared(self):
        # Of b upto c the greatest is c alone; the least of all is a.
        frame = (("a", "b", "c", "d"), (("b", "upto", "c"), ("a", "upto", "b"), ("a", "upto", "d")))
        script = (("need", "d", ("greatest", "a", "b", "c")),)
        self.assertEqual([case[0] for case in cases(frame, (), ONE, script)],
                         [(("c", "upto", "d"), ("d", "upto", "c")), (("c", "upto", "d"), ("c", "ahead", "d")),
                          (("d", "ahead", "c"),)])
        self.assertEqual(cases(frame, (), ONE, (("need", ("least", "a", "d"), "b"),)), (((), "done", 1, ONE),))

    def test_names_of_one_term_may_be_compared(self):
        facts = [case[0] for case in cases(ABC, (), ONE, (("need", ("least", "a", "b"), "c"),))]
        self.assertEqual(facts[0], (("a", "upto", "b"), ("a", "upto", "c")))
        self.assertEqual(facts[1], (("a", "upto", "b"), ("c", "ahead", "a")))
        self.assertEqual(facts[2], (("b", "ahead", "a"), ("b", "upto", "c")))
        self.assertEqual(facts[3], (("b", "ahead", "a"), ("c", "ahead", "b")))
        self.assertEqual(len(facts), 4)

    def test_ends_need_no_case(self):
        for one, other, word in (("-", "a", "done"), ("a", "+", "done"), ("+", "a", "stopped"), ("a", "-", "stopped"),
                                 ("+", "-", "stopped"), ("-", "-", "done"), (("least", "a", "-"), "b", "done"),
                                 (("greatest", "a", "+"), "b", "stopped"), (("least", "a", "b"), "a", "done")):
            self.assertEqual([case[:2] for case in cases(AB, (), ONE, (("need", one, other),))], [((), word)])

    def test_questions_of_join_and_shift(self):
        layout = (("p", "-", "a", "home"), ("q", "b", "+", "hut"))
        for deed, behind in ((("join", "p", "q", "p"), (("p", "-", "+", "home"),)),
                             (("shift", "p", "q", "-"), (("p", "-", "-", "home"), ("q", "-", "+", "hut")))):
            self.assertEqual(cases(AB, (), layout, (deed,)), (
                ((("a", "upto", "b"), ("b", "upto", "a")), "done", 1, behind),
                ((("a", "upto", "b"), ("a", "ahead", "b")), "stopped", 0, layout),
                ((("b", "ahead", "a"),), "stopped", 0, layout)))
        # Nothing is asked if something else is wanted as well.
        for deed in (("join", "p", "q", "r"), ("join", "p", "p", "p"), ("join", "p", "x", "p"), ("shift", "q", "q", "a"),
                     ("shift", "p", "q", ("lo", "x"))):
            three = layout + (("r", "-", "-", "h"),)
            self.assertEqual(cases(AB, (), three, (deed,)), (((), "stopped", 0, three),))

    def test_normal_forms_in_the_frame_of_the_case(self):
        layout = (("p", ("least", "a", "b"), ("greatest", "a", "b"), "h"),)
        self.assertEqual(cases(AB, (), layout, (("if", "b", "a", (), ()),)), (
            ((("a", "upto", "b"), ("b", "upto", "a")), "done", 0, (("p", "a", "a", "h"),)),
            ((("a", "upto", "b"), ("a", "ahead", "b")), "done", 0, (("p", "a", "b", "h"),)),
            ((("b", "ahead", "a"),), "done", 0, (("p", "b", "a", "h"),))))

    def test_a_frame_that_gets_more_than_60_facts(self):
        facts = (("a", "upto", "b"),) * 60
        frame = (("a", "b", "c"), facts)
        self.assertEqual([case[0] for case in cases(frame, (), ONE, (("need", "a", "c"), ("need", "b", "c")))], [
            (("a", "upto", "c"), ("b", "upto", "c")), (("a", "upto", "c"), ("c", "ahead", "b")), (("c", "ahead", "a"),)])
        self.assertEqual(case_of(frame, (), ONE, (("need", "a", "c"), ("need", "b", "c")), (1, 5, 3)), 1)
        self.assertEqual(parted(frame, (), ONE, (("need", "a", "c"),), ())[1:], (None, None))

    def test_what_is_right_at_first_stays_right(self):
        for frame, layout, script in tried(12):
            if is_right(frame, layout) and not any(word in str(script) for word in ("'off'", "'on'")):
                for facts, _, _, behind in cases(frame, BOOK, layout, script):
                    self.assertIs(is_right(with_facts(frame, facts), behind), True)
                    if len(layout) == 1:
                        self.assertIs(is_chain(with_facts(frame, facts), behind), True)


class Stages(unittest.TestCase):
    def test_stages_by_terms(self):
        for frame, layout, script in tried(30):
            told = stages(frame, BOOK, layout, script)
            expected = cases_by_terms(frame, BOOK, layout, script)
            self.assertEqual(len(told), len(expected))
            for (facts, steps), (other_facts, _, layouts) in zip(told, expected):
                self.assertEqual(facts, other_facts)
                new = with_facts(frame, facts)
                self.assertEqual(steps, tuple(
                    (deed, tuple((name, normal(new, low), normal(new, high), house) for name, low, high, house in behind))
                    for deed, behind in layouts if deed is None or deed[0] != "need"))

    def test_some_stages(self):
        book = (("cut", (("part", "x"), ("bound", "t")), (("need", "t", "b"), ("split", "x", ("greatest", "t", ("lo", "x")), "x", "n"))),)
        script = (("do", "cut", ("p", "a")), ("move", "n", "hut"))
        two = (("n", "a", "+", "home"), ("p", "-", "a", "home"))
        self.assertEqual(stages(AB, book, ONE, script), (
            ((("a", "upto", "b"),), ((None, ONE), (("split", "p", ("greatest", "a", ("lo", "p")), "p", "n"), two),
                                     (("move", "n", "hut"), (("n", "a", "+", "hut"), two[1])))),
            ((("b", "ahead", "a"),), ((None, ONE),))))
        # The LAYOUT at first, too, has NORMAL forms in the FRAME of the CASE.
        layout = (("p", ("least", "b", "a"), "+", "h"),)
        self.assertEqual(stages(AB, (), layout, (("need", "a", "b"),)), (
            ((("a", "upto", "b"),), ((None, (("p", "a", "+", "h"),)),)),
            ((("b", "ahead", "a"),), ((None, (("p", "b", "+", "h"),)),))))


class Faults(unittest.TestCase):
    def fault_plainly(self, frame, layout, script):
        """The least number of deeds behind which in some world some key lies in none or in two."""
        numbers = []
        for world in worlds_of(frame):
            plain = Plain(frame, BOOK, layout, world)
            plain.outcome(script)
            for number, parts in enumerate(plain.behind):
                if any(sum(low <= key < high for low, high, _ in parts.values()) != 1 for key in keys_of(world)):
                    numbers.append(number)
                    break
        return min(numbers, default=None)

    def test_first_faults_in_all_worlds(self):
        for frame, layout, script in tried(25):
            found = first_fault(frame, BOOK, layout, script)
            number = self.fault_plainly(frame, layout, script)
            if found is None:
                self.assertIsNone(number)
                continue
            least, world, key = found
            self.assertEqual(least, number)
            self.assertTrue(keeps(*frame, world))
            plain = Plain(frame, BOOK, layout, world)
            plain.outcome(script)
            self.assertNotEqual(sum(low <= key < high for low, high, _ in plain.behind[least].values()), 1)

    def test_some_first_faults(self):
        self.assertIsNone(first_fault(AB, (), ONE, ()))
        self.assertIsNone(first_fault(AB, (), ONE, (("split", "p", "a", "p", "q"), ("split", "q", "b", "q", "r"))))
        self.assertEqual(first_fault(AB, (), (), ())[0], 0)
        self.assertEqual(first_fault(AB, (), ONE[:0], (("on", "p", "-", "+", "h"),))[0], 0)
        self.assertEqual(first_fault(AB, (), ONE, (("move", "p", "h"), ("off", "p"), ("on", "p", "-", "+", "h")))[0], 2)
        self.assertEqual(first_fault(AB, (), ONE, (("need", "a", "b"), ("on", "q", "b", "a", "h"), ("off", "p")))[0], 3)
        number, world, key = first_fault(AB, (), ONE, (("move", "p", "h"), ("on", "q", "b", "a", "h")))
        self.assertEqual((number, world[1] <= key < world[0]), (2, True))
        # The first CASE fails behind two DEEDs, the second one behind one.
        script = (("if", "a", "b", (("move", "p", "h"), ("off", "p")), (("off", "p"),)),)
        number, world, _ = first_fault(AB, (), ONE, script)
        self.assertEqual((number, world[1] < world[0]), (1, True))
        # Bounds the wrong way about: some KEYs lie in two PARTs at first, and where they do not, later.
        layout = (("p", "-", "a", "h"), ("q", "b", "+", "h"))
        number, world, key = first_fault(AB, (), layout, ())
        self.assertNotEqual(world[0], world[1])


class Alike(unittest.TestCase):
    def keys_in(self, layout):
        """What two scripts are to have alike: names, houses, and the keys of each part."""
        ends = {"-": -10 ** 9, "+": 10 ** 9}
        told = {}
        for name, low, high, house in layout:
            low, high = ends.get(low, low), ends.get(high, high)
            told[name] = (house, (low, high) if low < high else None)
        return told

    def is_alike(self, frame, layout, one, other):
        for world in worlds_of(frame):
            first, second = outcome(frame, BOOK, layout, one, world), outcome(frame, BOOK, layout, other, world)
            if first[0] != second[0] or self.keys_in(first[2]) != self.keys_in(second[2]):
                return False
        return True

    def shows_parting(self, frame, layout, one, other, found):
        world, key, part = found
        self.assertTrue(keeps(*frame, world))
        first, second = outcome(frame, BOOK, layout, one, world), outcome(frame, BOOK, layout, other, world)
        if part is None:
            self.assertIsNone(key)
            self.assertNotEqual(first[0], second[0])
            return "word"
        self.assertEqual(first[0], second[0])
        first, second = self.keys_in(first[2]), self.keys_in(second[2])
        if key is None:
            self.assertTrue((part in first) != (part in second) or first[part][0] != second[part][0])
            return "name" if (part in first) != (part in second) else "house"
        self.assertEqual(first[part][0], second[part][0])
        inside = [at[part][1] is not None and at[part][1][0] <= key < at[part][1][1] for at in (first, second)]
        self.assertNotEqual(*inside)
        return "key"

    def test_scripts_in_all_worlds(self):
        words = set()
        for at, frame in enumerate(few_frames()):
            for layout in first_layouts(frame):
                scripts = mixed_scripts(frame, 8, at + 100, most=3)
                scripts += [script[:-1] for script in scripts if len(script) > 1] + [()]
                for one in scripts[:8]:
                    for other in scripts:
                        found = parted(frame, BOOK, layout, one, other)
                        self.assertIs(alike(frame, BOOK, layout, one, other), found is None)
                        self.assertIs(self.is_alike(frame, layout, one, other), found is None)
                        words.add(found and self.shows_parting(frame, layout, one, other, found))
        self.assertEqual(words, {None, "word", "name", "house", "key"})

    def test_each_sort_of_parting(self):
        for one, other, found in (
                ((("need", "a", "b"),), (), "word"), ((("off", "p"),), (), "name"), ((("call", "p", "q"),), (), "name"),
                ((("move", "p", "hut"),), (), "house"), ((("split", "p", "a", "p", "q"),), (("split", "p", "b", "p", "q"),), "key"),
                ((("off", "p"), ("off", "p")), (("move", "p", "hut"), ("off", "q")), "name"),
                ((("split", "p", "a", "p", "q"),), (("split", "p", ("least", "a", "b"), "p", "q"),), "key")):
            for first, second in ((one, other), (other, one)):
                self.assertIs(alike(AB, (), ONE, first, second), False)
                parting = parted(AB, (), ONE, first, second)
                self.assertEqual(self.shows_parting(AB, ONE, first, second, parting), found)

    def test_scripts_that_are_alike(self):
        cut = ("split", "p", "a", "p", "q")
        again = ("split", "q", "b", "q", "r")
        for one, other in (((), ()), ((cut,), (cut, ("need", "-", "a"), ("move", "q", "home"))),
                           ((cut, ("join", "p", "q", "p")), ()), ((("off", "x"), ("off", "p")), (("need", "+", "a"),)),
                           ((("if", "a", "b", (cut,), ()),), (("if", "b", "a", (("if", "a", "b", (cut,), ()),), (cut,)),)),
                           ((cut, again), (("split", "p", ("greatest", "a", "b"), "p", "r"), ("split", "p", "a", "p", "q"))),
                           ((("on", "x", "a", "a", "h"),), (("on", "x", "b", "b", "h"),)),
                           ((("on", "x", "b", ("least", "a", "b"), "h"),), (("on", "x", "+", "-", "h"),))):
            self.assertIs(alike(AB, (), ONE, one, other), True)
            self.assertIs(alike(AB, (), ONE, other, one), True)
            self.assertIsNone(parted(AB, (), ONE, one, other))

    def test_needless_deeds(self):
        for frame, layout, script in tried(6):
            expected = tuple(at for at in range(len(script))
                             if self.is_alike(frame, layout, script, script[:at] + script[at + 1:]))
            self.assertEqual(needless(frame, BOOK, layout, script), expected)

    def test_deeds_that_may_change(self):
        for frame, layout, script in tried(6):
            expected = tuple(at for at in range(len(script) - 1) if self.is_alike(
                frame, layout, script, script[:at] + (script[at + 1], script[at]) + script[at + 2:]))
            self.assertEqual(may_change(frame, BOOK, layout, script), expected)

    def test_some_needless_deeds(self):
        cut, move, back = ("split", "p", "a", "p", "q"), ("move", "p", "hut"), ("move", "p", "home")
        inner = ("if", "a", "b", (move,), (move,))
        for script, lean, turned in (
                ((), (), ()), ((cut,), (), ()), ((move, back), (0,), ()), ((back,), (0,), ()), ((back, back), (0, 1), (0,)),
                ((move, inner), (0, 1), (0,)), ((inner, ("need", "-", "b"), cut), (1,), (0, 1)),
                ((("if", "a", "b", (), (move,)), move), (0,), (0,)), ((cut, inner, ("off", "p")), (1,), ()),
                ((("need", "a", "b"), ("need", "b", "a")), (), (0,)),
                ((("need", "a", "b"), ("if", "a", "b", (move,), (("off", "p"),))), (), ()),
                ((("need", "a", "b"), ("need", "a", "b")), (0, 1), (0,)),
                ((cut, ("off", "x"), move), (2,), ())):
            self.assertEqual(needless(AB, (), ONE, script), lean, script)
            self.assertEqual(may_change(AB, (), ONE, script), turned, script)


class Errors(unittest.TestCase):
    def test_their_order(self):
        for call in (cases, stages, first_fault, needless, may_change):
            self.assertRaises(BadFrame, call, None, None, None, None)
            self.assertRaises(BadBook, call, AB, None, None, None)
            self.assertRaises(BadLayout, call, AB, (), None, None)
            self.assertRaises(BadScript, call, AB, (), (), None)
        self.assertRaises(BadFrame, case_of, None, None, None, None, None)
        self.assertRaises(BadBook, case_of, AB, None, None, None, None)
        self.assertRaises(BadLayout, case_of, AB, (), None, None, None)
        self.assertRaises(BadScript, case_of, AB, (), (), None, None)
        self.assertRaises(BadWorld, case_of, AB, (), (), (), None)
        for call in (alike, parted):
            self.assertRaises(BadFrame, call, None, None, None, None, None)
            self.assertRaises(BadBook, call, AB, None, None, None, None)
            self.assertRaises(BadLayout, call, AB, (), None, None, None)
            for one, other, place in ((None, ("x",), ()), (("x",), None, (0,)), ((), ((("off", "p"),) * 2)[1:] + (None,), (1,))):
                with self.assertRaises(BadScript) as caught:
                    call(AB, (), (), one, other)
                self.assertEqual(caught.exception.place, place)

    def test_of_anything(self):
        for thing in WRONG:
            empty = isinstance(thing, tuple) and thing == ()
            for call in (cases, stages, first_fault, needless, may_change):
                if not empty:
                    self.assertRaises(BadBook, call, AB, thing, ONE, ())
                    self.assertRaises(BadLayout, call, AB, (), thing, ())
                    self.assertRaises(BadScript, call, AB, (), ONE, thing)
            for call in (alike, parted):
                if not empty:
                    self.assertRaises(BadScript, call, AB, (), ONE, thing, ())
                    self.assertRaises(BadScript, call, AB, (), ONE, (), thing)
            with self.assertRaises(BadWorld) as caught:
                case_of(AB, (), ONE, (), thing)
            self.assertIs(caught.exception.given, thing)


# Seven free names, and two scripts that change nothing: one of 200 cases, and one of 201.
SEVEN = (tuple("abcdefg"), ())
FIRST = (("if", "g", "f", (), ()), ("need", "f", "d"), ("need", "g", "b"), ("need", "f", "e"), ("if", "d", "a", (), ()),
         ("need", "c", "a"))
FULL = (("if", "a", "b", FIRST, (("if", "f", "a", (), ()), ("need", "e", "c"), ("if", "g", "d", (), ()),
                                 ("need", "g", "f"), ("if", "g", "f", (), ()))),)
OVER = (("if", "a", "b", FIRST, (("if", "d", "a", (), ()), ("if", "d", "c", (), ()), ("if", "b", "c", (), ()),
                                 ("if", "e", "a", (), ()), ("if", "c", "a", (), ()))),)


class TooManyCases(unittest.TestCase):
    def refused(self, call, *given):
        with self.assertRaises(TooMany) as caught:
            call(*given)
        self.assertEqual(caught.exception.most, 200)

    def test_200_cases_and_more(self):
        told = cases(SEVEN, (), ONE, FULL)
        self.assertEqual(len(told), 200)
        self.assertEqual(len(set(told)), 200)
        for world in ((1, 2, 3, 4, 5, 6, 7), (7, 6, 5, 4, 3, 2, 1), (0,) * 7, (2, 1, 2, 1, 2, 1, 2), (1, 9, 1, 5, 5, 3, 3)):
            at = case_of(SEVEN, (), ONE, FULL, world)
            self.assertEqual([one for one, case in enumerate(told) if keeps(SEVEN[0], case[0], world)], [at])
            self.assertEqual(told[at][1:], outcome(SEVEN, (), ONE, FULL, world)[:2] + (ONE,))
        self.assertEqual(len(stages(SEVEN, (), ONE, FULL)), 200)
        self.assertIsNone(first_fault(SEVEN, (), ONE, FULL))
        for call in (cases, stages, first_fault, needless, may_change):
            self.refused(call, SEVEN, (), ONE, OVER)
            self.refused(call, SEVEN, (), ONE, FULL + OVER)
        self.refused(case_of, SEVEN, (), ONE, OVER, (0,) * 7)

    def test_of_one_and_of_other(self):
        self.assertIs(alike(SEVEN, (), ONE, FULL, FULL), True)
        self.assertIsNotNone(parted(SEVEN, (), ONE, FULL, ()))
        for call in (alike, parted):
            self.refused(call, SEVEN, (), ONE, OVER, FULL)
            self.refused(call, SEVEN, (), ONE, FULL, OVER)
            self.refused(call, SEVEN, (), ONE, (("off", "x"),), OVER)

    def test_only_of_what_is_passed(self):
        # Exchanged, or without its first DEED, this one has more CASES; itself it has one.
        self.assertEqual(may_change(SEVEN, (), ONE, (("off", "x"), *OVER)), (0,))
        self.assertEqual(needless(SEVEN, (), ONE, (("off", "x"), *OVER)), (1,))
        self.refused(may_change, SEVEN, (), ONE, (*OVER, ("off", "x")))

    def test_it_comes_last(self):
        self.assertRaises(BadWorld, case_of, SEVEN, (), ONE, OVER, (0,) * 6)
        self.assertRaises(BadScript, parted, SEVEN, (), ONE, OVER, None)
        self.assertRaises(BadLayout, cases, SEVEN, (), None, OVER)


class Helpers(unittest.TestCase):
    def test_the_parts_of_the_layouts_to_try_are_as_told(self):
        for frame in few_frames():
            for layout in right_layouts(frame, 3, 5):
                for world in worlds_of(frame):
                    for key in keys_of(world):
                        self.assertEqual(len(parts_plainly(frame, layout, world, key)), 1)
                        self.assertTrue(any(lies_in(part, dict(zip(frame[0], world)), key) for part in layout))

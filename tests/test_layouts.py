import unittest

from namedcuts.cuts import cuts
from namedcuts.errors import BadCut, BadFrame, BadLayout, BadNumber, BadPaper, BadWorld
from namedcuts.layouts import (check_fault, empty, fault, fault_paper, is_right, need_layout, parts_at, parts_of, trim)
from namedcuts.terms import normal
from plain import any_layouts, cut_at, has_plainly, lies_in, parts_plainly, right_layouts
from trials import ODD, WRONG, few_frames, frames_to_try, keys_of, nested, terms_to_try, worlds_of

AB = (("a", "b"), (("a", "upto", "b"),))
FREE = (("a", "b"), ())
LINE = (("x", "-", "a", "hut"), ("y", "a", "b", "home"), ("z", "b", "+", "home"))


def tried():
    """Pairs of a frame and layouts of it, right ones and others."""
    for at, frame in enumerate(few_frames()):
        yield frame, right_layouts(frame, 6, at) + any_layouts(frame, 12, at)


def in_parts(layout, cut):
    return tuple(name for name, low, high, _ in layout if has_plainly(cut, low) and not has_plainly(cut, high))


class Layouts(unittest.TestCase):
    def bad(self, part, number, call, *given):
        with self.assertRaises(BadLayout) as caught:
            call(*given)
        self.assertEqual((caught.exception.part, caught.exception.number), (part, number), given)

    def refused(self, part, call, *given):
        with self.assertRaises(BadPaper) as caught:
            call(*given)
        self.assertEqual(caught.exception.part, part, given)


class Forms(Layouts):
    def test_layouts_are_told_as_they_are(self):
        letters = "abcdefghijklmnop"
        for many in (0, 1, 2, 16):
            layout = tuple((letter, "-", "+", "home") for letter in letters[:many])
            self.assertIs(need_layout(AB, layout), layout)
        layout = (("a", ("least", "a", "-"), ("greatest", "b", "+", "a"), "a"), ("abcdef", "b", "a", "zzzzzz"), LINE[2])
        self.assertIs(need_layout(AB, layout), layout)

    def test_no_tuple_of_at_most_16(self):
        seventeen = tuple((letter, "-", "+", "home") for letter in "abcdefghijklmnopq")
        for thing in (None, True, 0, "", "abc", b"a", [], [LINE[0]], {}, {"a": 1}, set(), seventeen, ODD, object(), len):
            self.bad("form", None, need_layout, AB, thing)

    def test_each_wrong_part(self):
        for thing in WRONG:
            self.bad("form", 0, need_layout, AB, (thing,))
            self.bad("form", 1, need_layout, AB, (LINE[0], thing, LINE[2]))
            self.bad("form", 2, need_layout, AB, (LINE[0], LINE[1], thing))

    def test_no_name_of_part_or_house(self):
        for thing in WRONG + ("", "abcdefg", "A", "a1", "a b", "a\n", "-"):
            if not (isinstance(thing, str) and thing.isalpha() and thing.islower() and len(thing) <= 6):
                self.bad("form", 1, need_layout, AB, (LINE[0], (thing, "a", "b", "home"), LINE[2]))
                self.bad("form", 1, need_layout, AB, (LINE[0], ("y", "a", "b", thing), LINE[2]))
        for part in (("y", "a", "b"), ("y", "a", "b", "home", "home"), ["y", "a", "b", "home"], ("y", "a", "b", "")):
            self.bad("form", 1, need_layout, AB, (LINE[0], part, LINE[2]))

    def test_names_do_not_ascend(self):
        for layout in ((LINE[1], LINE[0]), (LINE[0], LINE[0]), (LINE[0], ("w", "a", "b", "home"))):
            self.bad("order", 1, need_layout, AB, layout)
        self.bad("order", 2, need_layout, AB, (LINE[0], LINE[2], LINE[1]))
        self.bad("order", 1, need_layout, AB, (("aa", "a", "b", "h"), ("a", "a", "b", "h")))
        self.bad("order", 1, need_layout, AB, (LINE[0], ("x", None, None, "home"), None))

    def test_no_terms(self):
        for thing in WRONG + ("c", "ab", ("least",), ("lo", "x"), ("least", ("lo", "x")), nested(40), ("most", "a")):
            if thing in ("a", "b") and isinstance(thing, str):
                continue
            self.bad("lo", 1, need_layout, AB, (LINE[0], ("y", thing, "b", "home"), LINE[2]))
            self.bad("hi", 1, need_layout, AB, (LINE[0], ("y", "a", thing, "home"), LINE[2]))
            self.bad("lo", 1, need_layout, AB, (LINE[0], ("y", thing, thing, "home"), None))

    def test_the_first_thing_and_the_first_word(self):
        self.bad("hi", 0, need_layout, AB, (("x", "-", None, "h"), None))
        self.bad("form", 0, need_layout, AB, (("x", None, None, 1), ("w", "-", "-", "h")))
        self.bad("lo", 0, need_layout, AB, (("x", "c", "c", "h"), ("x", "-", "-", "h")))
        self.bad("form", 1, need_layout, AB, (LINE[0], ("w", None, None, ""), LINE[2]))

    def test_names_of_another_frame(self):
        frame = (("b", "c"), ())
        self.bad("hi", 0, need_layout, frame, LINE)
        self.bad("lo", 1, need_layout, frame, (("x", "-", "b", "hut"), LINE[1]))

    def test_the_frame_comes_first(self):
        for call in (need_layout, fault, is_right, fault_paper):
            self.assertRaises(BadFrame, call, ((), ()), None)
            for thing in WRONG:
                if thing != () or not isinstance(thing, tuple):
                    self.assertRaises(BadLayout, call, AB, thing)
                    self.assertRaises(BadLayout, check_fault, AB, thing, None)
                    self.assertRaises(BadLayout, parts_at, AB, thing, None, None)
                    self.assertRaises(BadLayout, parts_of, AB, thing, None)
        self.assertRaises(BadFrame, parts_at, ((), ()), None, None, None)
        self.assertRaises(BadFrame, parts_of, ((), ()), None, None)
        self.assertRaises(BadFrame, check_fault, ((), ()), None, None)
        self.assertRaises(BadFrame, empty, ((), ()), None)
        self.assertRaises(BadFrame, trim, ((), ()), None)


class Lying(Layouts):
    def test_keys_and_cuts_in_all_worlds(self):
        for frame, layouts in tried():
            for layout in layouts:
                for world in worlds_of(frame):
                    for key in keys_of(world):
                        names = parts_at(frame, layout, world, key)
                        self.assertEqual(names, parts_plainly(frame, layout, world, key))
                        self.assertEqual(names, parts_of(frame, layout, cut_at(frame, world, key)))

    def test_below_at_and_above_a_value(self):
        at = [parts_at(AB, LINE, (3, 5), key) for key in (2, 3, 4, 5, 6)]
        self.assertEqual(at, [("x",), ("y",), ("y",), ("z",), ("z",)])
        self.assertEqual([parts_at(AB, LINE, (4, 4), key) for key in (3, 4)], [("x",), ("z",)])
        huge = 10 ** 39
        self.assertEqual([parts_at(AB, LINE, (-huge, huge), key) for key in (-huge - 1, -huge, huge - 1, huge)],
                         [("x",), ("y",), ("y",), ("z",)])

    def test_errors_of_the_rest(self):
        for thing in WRONG:
            for call, error in ((lambda: parts_at(AB, LINE, thing, None), BadWorld),
                                (lambda: parts_of(AB, LINE, thing), BadCut)):
                if thing == () and isinstance(thing, tuple) and error is BadCut:
                    continue
                with self.assertRaises(error) as caught:
                    call()
                self.assertIs(caught.exception.given, thing)
            if not isinstance(thing, int) or isinstance(thing, bool):
                with self.assertRaises(BadNumber) as caught:
                    parts_at(AB, LINE, (1, 2), thing)
                self.assertIs(caught.exception.given, thing)
        self.assertRaises(BadWorld, parts_at, AB, LINE, (2, 1), 0)
        self.assertRaises(BadCut, parts_of, AB, LINE, ("b",))
        self.bad("form", None, parts_at, AB, [], (2, 1), None)
        self.bad("form", None, parts_of, AB, [], ("b",))


class Faults(Layouts):
    def test_faults_by_all_cuts(self):
        for frame, layouts in tried():
            for layout in layouts:
                found = None
                for cut in cuts(frame):
                    names = in_parts(layout, cut)
                    if found is None and len(names) != 1:
                        found = ("twice", cut, names[0], names[1]) if names else ("gap", cut)
                self.assertEqual(fault(frame, layout), found)
                self.assertIs(is_right(frame, layout), found is None)

    def test_right_is_right_in_all_worlds(self):
        for frame, layouts in tried():
            for layout in layouts:
                many = {len(parts_plainly(frame, layout, world, key))
                        for world in worlds_of(frame) for key in keys_of(world)}
                self.assertIs(is_right(frame, layout), many == {1})

    def test_some_faults(self):
        self.assertIsNone(fault(AB, LINE))
        self.assertIs(is_right(AB, LINE), True)
        # Where a may be behind b the keys between are in x and in z, and in y nothing is.
        self.assertEqual(fault(FREE, LINE), ("twice", ("b",), "x", "z"))
        self.assertIs(is_right(FREE, LINE), False)
        self.assertEqual(fault(AB, ()), ("gap", ()))
        self.assertEqual(fault(AB, LINE[1:]), ("gap", ()))
        self.assertEqual(fault(AB, LINE[:1] + LINE[2:]), ("gap", ("a",)))
        self.assertEqual(fault(AB, LINE[:2]), ("gap", ("a", "b")))
        three = (("q", "-", "+", "h"), ("r", "+", "-", "h"), ("s", "-", "+", "h"), ("t", "-", "+", "h"))
        self.assertEqual(fault(AB, three), ("twice", (), "q", "s"))

    def test_papers_on_faults(self):
        for frame, layouts in tried():
            for layout in layouts:
                paper = fault_paper(frame, layout)
                if is_right(frame, layout):
                    self.assertIsNone(paper)
                    continue
                world, key = paper
                self.assertIn(len(parts_plainly(frame, layout, world, key)), (0, 2, 3, 4))
                word = "twice" if parts_plainly(frame, layout, world, key) else "gap"
                self.assertEqual(check_fault(frame, layout, paper), word)

    def test_papers_in_all_worlds(self):
        for frame, layouts in tried():
            for layout in layouts[::3]:
                for world in worlds_of(frame):
                    for key in keys_of(world):
                        many = len(parts_plainly(frame, layout, world, key))
                        if many == 1:
                            self.refused("key", check_fault, frame, layout, (world, key))
                        else:
                            told = check_fault(frame, layout, (world, key))
                            self.assertEqual(told, "twice" if many else "gap")

    def test_papers_that_do_not_hold(self):
        self.assertEqual(check_fault(FREE, LINE, ((3, 1), 2)), "twice")
        self.assertEqual(check_fault(AB, LINE[:2], ((1, 3), 3)), "gap")
        papers = WRONG + (((1, 3),), ((1, 3), 3, 3), [(1, 3), 3], ([1, 3], 3), ((1, 3), True), ((1, 3), None),
                          ((1, 3), "a"), (3, (1, 3)), ((1, 3), ODD), (ODD, 3), (None, 3), ({}, 3), ((1, 3), (3,)))
        for paper in papers:
            self.refused("form", check_fault, AB, LINE[:2], paper)
        for world in ((), (1,), (3, 1), (1, 2, 3), (1, True), ("a", "b"), (None, None), (ODD, ODD), ([], 1)):
            self.refused("world", check_fault, AB, LINE[:2], (world, 3))
        for key in (0, 1, 2):
            self.refused("key", check_fault, AB, LINE[:2], ((1, 3), key))
            self.refused("key", check_fault, AB, LINE, ((1, 3), key))


class Empty(Layouts):
    def test_empty_in_all_worlds(self):
        for frame in few_frames():
            terms = terms_to_try(frame[0], 10, 3)[::3]
            worlds = worlds_of(frame)
            for low in terms:
                for high in terms[::2]:
                    part = ("a", low, high, "home")
                    held = [any(lies_in(part, dict(zip(frame[0], world)), key) for key in keys_of(world))
                            for world in worlds]
                    word = "never" if all(held) else "sometimes" if any(held) else "always"
                    self.assertEqual(empty(frame, part), word, (frame, part))

    def test_some_empty_parts(self):
        strict = (("a", "b"), (("a", "ahead", "b"),))
        for frame, low, high, word in (
                (FREE, "a", "b", "sometimes"), (AB, "a", "b", "sometimes"), (strict, "a", "b", "never"),
                (AB, "b", "a", "always"), (strict, "b", "a", "always"), (FREE, "a", "a", "always"),
                (FREE, "-", "+", "never"), (FREE, "-", "a", "never"), (FREE, "a", "+", "never"), (FREE, "+", "-", "always"),
                (FREE, "-", "-", "always"), (FREE, "+", "+", "always"), (FREE, "a", "-", "always"),
                (FREE, "+", "a", "always"), (FREE, "a", ("least", "a", "a"), "always"),
                (FREE, ("least", "a", "b"), ("greatest", "a", "b"), "sometimes"),
                (FREE, ("greatest", "a", "b"), ("least", "a", "b"), "always"),
                (strict, "a", ("greatest", "a", "b"), "never"), (AB, "b", ("greatest", "a", "b"), "always")):
            self.assertEqual(empty(frame, ("x", low, high, "h")), word, (frame, low, high))

    def test_trim_has_the_same_keys(self):
        for frame, layouts in tried():
            for layout in layouts:
                for part in layout:
                    low, high = trim(frame, part)
                    self.assertEqual((low, high), (normal(frame, low), normal(frame, high)))
                    new = (part[0], low, high, part[3])
                    self.assertEqual(trim(frame, new), (low, high))
                    for cut in cuts(frame):
                        self.assertEqual(in_parts((part,), cut), in_parts((new,), cut))
                    if empty(frame, part) == "always":
                        self.assertEqual((low, high), ("+", "+"))
                    else:
                        self.assertNotEqual(low, "+")

    def test_trim_bounds_by_their_words(self):
        for frame, layouts in tried():
            for part in [part for layout in layouts for part in layout]:
                inside = [set(cut) for cut in cuts(frame) if in_parts((part,), cut)]
                low, high = trim(frame, part)
                for cut in cuts(frame):
                    above = any(one <= set(cut) for one in inside)
                    self.assertEqual(has_plainly(cut, low), above)
                    self.assertEqual(has_plainly(cut, high), above and set(cut) not in inside)

    def test_trim_is_equal_exactly_for_the_same_cuts(self):
        for frame, layouts in tried():
            parts = [part for layout in layouts for part in layout]
            lots = {}
            for part in parts:
                lot = tuple(cut for cut in cuts(frame) if in_parts((part,), cut))
                lots.setdefault(lot, set()).add(trim(frame, part))
            self.assertEqual({len(found) for found in lots.values()}, {1})
            self.assertEqual(len(set.union(*lots.values())), len(lots))

    def test_some_trim_bounds(self):
        for low, high, bounds in (("a", "b", ("a", ("greatest", "a", "b"))), ("-", "+", ("-", "+")), ("b", "b", ("+", "+")),
                                  (("least", "a", "b"), "b", ("a", ("greatest", "a", "b"))), ("+", "-", ("+", "+")),
                                  ("-", ("greatest", "a", "a"), ("-", "a")), ("a", "-", ("+", "+"))):
            self.assertEqual(trim(FREE, ("x", low, high, "h")), bounds)
        self.assertEqual(trim(AB, ("x", "a", "b", "h")), ("a", "b"))
        self.assertEqual(trim(AB, ("x", "b", "a", "h")), ("+", "+"))

    def test_no_part(self):
        for call in (empty, trim):
            for thing in WRONG:
                self.bad("form", 0, call, FREE, thing)
                self.bad("form", 0, call, FREE, ("x", "a", "b", thing) if thing != "a" else None)
            self.bad("form", 0, call, FREE, (("x", "a", "b", "h"),))
            self.bad("form", 0, call, FREE, ("x", None, "b", "H"))
            self.bad("lo", 0, call, FREE, ("x", "c", None, "h"))
            self.bad("lo", 0, call, FREE, ("x", ("lo", "x"), "a", "h"))
            self.bad("hi", 0, call, FREE, ("x", "a", ("least",), "h"))


class Calls(Layouts):
    def test_nothing_is_changed_or_kept(self):
        layout = [list(part) for part in LINE]
        self.bad("form", None, need_layout, AB, layout)
        self.assertEqual(layout, [list(part) for part in LINE])
        self.assertEqual(fault_paper(AB, LINE[:2]), fault_paper(AB, LINE[:2]))

    def test_many_frames_are_looked_at(self):
        for frame in frames_to_try()[::20]:
            low, high = frame[0][0], frame[0][-1]
            layout = (("x", "-", low, "h"), ("y", low, high, "h"), ("z", high, "+", "h"))
            goes_up = all(world[0] <= world[-1] for world in worlds_of(frame))
            self.assertIs(is_right(frame, layout), goes_up)

import unittest
from itertools import combinations, permutations

from namedcuts.cuts import cut_of, cuts, is_cut, is_row, row_of, world_along, world_of
from namedcuts.errors import BadCut, BadFrame, BadNumber, BadWorld
from trials import ODD, WRONG, few_frames, frames_to_try, keeps, keys_of, nested, worlds_of

SEVEN = tuple("abcdefg")
AB = (("a", "b"), ())
LINE = (("a", "b"), (("a", "ahead", "b"),))


def reached(frame, world, key):
    return tuple(name for name, low in zip(frame[0], world) if low <= key)


def rows_by_worlds(frame):
    """All rows, each from the cuts that the keys of a world reach."""
    rows = []
    for world in worlds_of(frame):
        row = []
        for key in keys_of(world):
            cut = reached(frame, world, key)
            if cut not in row:
                row.append(cut)
        rows.append(tuple(row))
    return rows


class Cases(unittest.TestCase):
    def bad(self, error, thing, call, *given):
        with self.assertRaises(error) as caught:
            call(*given)
        self.assertIs(caught.exception.given, thing)


class Cuts(Cases):
    def test_cuts_are_what_keys_reach(self):
        for frame in frames_to_try():
            found = {reached(frame, world, key) for world in worlds_of(frame) for key in keys_of(world)}
            self.assertEqual(cuts(frame), tuple(sorted(found, key=lambda cut: (len(cut), cut))), frame)

    def test_all_of_seven_names(self):
        all_cuts = cuts((SEVEN, ()))
        self.assertEqual(len(all_cuts), 128)
        self.assertEqual(all_cuts[:9], ((),) + tuple((name,) for name in SEVEN) + (("a", "b"),))
        self.assertEqual(list(all_cuts), [cut for many in range(8) for cut in combinations(SEVEN, many)])

    def test_facts_leave_cuts_out(self):
        self.assertEqual(cuts(LINE), ((), ("a",), ("a", "b")))
        self.assertEqual(cuts((("a", "b"), (("b", "upto", "a"),))), ((), ("b",), ("a", "b")))
        self.assertEqual(cuts((("a", "b"), (("a", "upto", "b"), ("b", "upto", "a")))), ((), ("a", "b")))

    def test_is_cut(self):
        for frame in frames_to_try():
            for many in range(len(frame[0]) + 1):
                for names in permutations(frame[0], many):
                    self.assertIs(is_cut(frame, names), names in cuts(frame), (frame, names))

    def test_is_cut_of_anything(self):
        for thing in WRONG + (nested(60), ["a"], ("a", "a"), ("b", "a"), ("c",), ("a", "b", "b"), "ab", ("a", 1)):
            if thing != () or isinstance(thing, (list, dict)) or thing is ODD:
                self.assertIs(is_cut(AB, thing), False, thing)
        self.assertIs(is_cut(AB, ()), True)
        self.assertIs(is_cut(LINE, ("b",)), False)

    def test_cut_of(self):
        for frame in few_frames():
            for world in worlds_of(frame):
                for key in keys_of(world):
                    self.assertEqual(cut_of(frame, world, key), reached(frame, world, key))
        self.assertEqual(cut_of(AB, (10 ** 39, -10 ** 39), 10 ** 39), ("a", "b"))

    def test_world_of(self):
        for frame in frames_to_try():
            for cut in cuts(frame):
                told = world_of(frame, cut)
                self.assertIsInstance(told, tuple)
                world, key = told
                self.assertTrue(keeps(*frame, world), (frame, cut))
                self.assertEqual(reached(frame, world, key), cut)
                self.assertTrue(all(type(number) is int for number in (*world, key)))

    def test_world_of_each_of_128(self):
        for cut in cuts((SEVEN, ())):
            self.assertEqual(cut_of((SEVEN, ()), *world_of((SEVEN, ()), cut)), cut)


class Rows(Cases):
    def test_row_of(self):
        for frame in few_frames():
            wanted = rows_by_worlds(frame)
            self.assertEqual([row_of(frame, world) for world in worlds_of(frame)], wanted)

    def test_rows_there_and_back(self):
        for frame in frames_to_try():
            for row in rows_by_worlds(frame):
                self.assertIs(is_row(frame, row), True)
                world = world_along(frame, row)
                self.assertTrue(keeps(*frame, world), (frame, row))
                self.assertTrue(all(type(number) is int for number in world))
                self.assertEqual(row_of(frame, world), row)

    def test_is_row_is_what_worlds_have(self):
        for frame in few_frames():
            rows = set(rows_by_worlds(frame))
            if len(cuts(frame)) > 8:
                continue
            for many in range(6):
                for some in permutations(cuts(frame), many):
                    self.assertIs(is_row(frame, some), some in rows, (frame, some))

    def test_no_two_of_which_one_is_ahead_come_at_once(self):
        self.assertIs(is_row(LINE, ((), ("a", "b"))), False)
        self.assertIs(is_row(LINE, ((), ("a",), ("a", "b"))), True)
        self.assertIs(is_row((("a", "b"), (("a", "upto", "b"),)), ((), ("a", "b"))), True)
        told = (("a", "b", "c"), (("a", "ahead", "b"), ("b", "upto", "c")))
        self.assertIs(is_row(told, ((), ("a",), ("a", "b", "c"))), True)
        self.assertIs(is_row(told, ((), ("a", "b", "c"))), False)

    def test_is_row_of_anything(self):
        wrong = WRONG + (nested(60), ((), ("a",)), (("a",), ("a", "b")), ((), ("a",), ("b",), ("a", "b")),
                         [(), ("a", "b")], ((), ["a", "b"]), ((), ("a", "b"), ("a", "b")), ((), (), ("a", "b")),
                         ((), ("b", "a")), ((), ("a", "b"), ()), ((), ("c",), ("a", "b")), ((), ODD, ("a", "b")))
        for thing in wrong:
            self.assertIs(is_row(AB, thing), False, thing)
            self.bad(BadCut, thing, world_along, AB, thing)

    def test_seven_names_one_by_one(self):
        row = tuple(SEVEN[:many] for many in range(8))
        self.assertEqual(row_of((SEVEN, ()), world_along((SEVEN, ()), row)), row)


class Refusals(Cases):
    def test_each_function_refuses_a_frame_first(self):
        for call, more in ((cuts, 0), (is_cut, 1), (cut_of, 2), (world_of, 1), (row_of, 1), (is_row, 1),
                           (world_along, 1)):
            for frame in (None, ODD, (("b", "a"), ()), (("a", "b"), (("a", "ahead", "b"), ("b", "ahead", "a")))):
                self.assertRaises(BadFrame, call, frame, *[None] * more)

    def test_worlds_then_numbers(self):
        for thing in WRONG + ((1, True), (1,), (1, 2, 3), [1, 2], (2, 1), (1, 1)):
            self.bad(BadWorld, thing, cut_of, LINE, thing, True)
            self.bad(BadWorld, thing, row_of, LINE, thing)
        for thing in WRONG:
            if not isinstance(thing, int) or isinstance(thing, bool):
                self.bad(BadNumber, thing, cut_of, LINE, (1, 2), thing)
        self.bad(BadNumber, True, cut_of, LINE, (1, 2), True)

    def test_cuts(self):
        for thing in WRONG + (("b",), ("b", "a"), ["a"], "a", ("a", "a")):
            if isinstance(thing, tuple) and len(thing) == 0:
                continue
            self.bad(BadCut, thing, world_of, LINE, thing)

    def test_lists_are_not_changed(self):
        cut, world = ["a"], [1, 2]
        self.assertRaises(BadCut, world_of, AB, cut)
        self.assertRaises(BadWorld, row_of, AB, world)
        self.assertEqual((cut, world), (["a"], [1, 2]))

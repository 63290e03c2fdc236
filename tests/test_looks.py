from itertools import combinations, product
from random import Random
from unittest.mock import patch

from namedcuts import looks
from namedcuts.cuts import cuts
from namedcuts.errors import BadFrame, BadLayout, BadNames, BadPaper, BadQuestion, TooMany
from namedcuts.looks import check_looks, enough, fewest_names, least_looks, on_looks, wanted_names
from namedcuts.maps import map_of
from namedcuts.trees import depth, form, is_right_tree, tree_map
from plain import any_layouts, right_layouts
from refusals import Refusals
from test_maps import has_map
from trials import ODD, WRONG, few_frames, keeps, mixed_term

AB = (("a", "b"), ())
ABC = (("a", "b", "c"), ())
LINE = (("a", "b"), (("a", "upto", "b"),))
SEVEN = (tuple("abcdefg"), ())
WHOLE = (("x", "-", "+", "h"),)
TWICE = (("x", "-", "+", "h"), ("y", "-", "+", "h"))
# Each look leaves two things: a and b alike, or unlike.
ODDLY = (("x", "-", ("least", "a", "b"), "h"), ("y", ("least", "a", "b"), ("greatest", "a", "b"), "h"),
         ("z", ("greatest", "a", "b"), "+", "h"))
BY_B = (("x", "-", "b", "h"), ("y", "b", "+", "h"))


def layouts_for(frame, seed, right=4, others=12):
    return [one for one in right_layouts(frame, right, seed) + any_layouts(frame, others, seed) if has_map(frame, one)]


def maps_by_trees(frame, leaves):
    """The maps of all trees of 0 looks on a way, of at most 1, and of at most 2."""
    found = [{(leaf,) * len(cuts(frame)) for leaf in leaves}]
    for _ in range(2):
        sides = [(name, [name in cut for cut in cuts(frame)]) for name in frame[0]]
        found.append(found[-1] | {tuple(high if is_had else low for low, high, is_had in zip(no, yes, had))
                                  for _, had in sides for no, yes in product(found[-1], repeat=2)})
    return found


def numbered(things):
    """A map with numbers for things, by the order in which they come."""
    order = list(dict.fromkeys(things))
    return tuple(order.index(thing) for thing in things)


def closed_states(frame):
    """All closed states, by the words of the document."""
    names, facts = frame
    found = []
    for marks in product((-1, 0, 1), repeat=len(names)):
        at = dict(zip(names, marks))
        if all((at[other] < 1 or at[one] == 1) and (at[one] > -1 or at[other] == -1) for one, _, other in facts):
            found.append(tuple(tuple(name for name in names if at[name] == side) for side in (1, -1)))
    return sorted(found)


def open_in(frame, state):
    return [cut for cut in cuts(frame) if set(state[0]) <= set(cut) and not set(state[1]) & set(cut)]


class LeastLooks(Refusals):
    def test_against_all_trees(self):
        seen = set()
        for at, frame in enumerate(few_frames()):
            if len(frame[0]) > 3:
                continue
            maps = maps_by_trees(frame, range(4))
            for layout in layouts_for(frame, at, 8, 40):
                things = numbered(map_of(frame, layout))
                least = min([many for many, some in enumerate(maps) if things in some], default=3)
                self.assertEqual(least_looks(frame, layout), least)
                seen.add(least)
        self.assertEqual(seen, {0, 1, 2, 3})

    def test_some(self):
        for frame, layout, least in ((AB, WHOLE, 0), (AB, (), 0), (AB, WHOLE + (("y", "a", "a", "h"),), 0), (AB, BY_B, 1),
                                     (AB, ODDLY, 2), (LINE, ODDLY, 2), (LINE, BY_B, 1), (AB, ODDLY[:1], 2),
                                     ((("a", "b"), (("a", "upto", "b"), ("b", "upto", "a"))), ODDLY, 1),
                                     (SEVEN, WHOLE, 0), (SEVEN, (("x", "g", "+", "h"),), 1)):
            found = least_looks(frame, layout)
            self.assertEqual((found, type(found)), (least, int))
        # In a line of NAMEs half of what is left goes by each look.
        line = (tuple("abcdefg"), tuple((one, "upto", other) for one, other in zip("abcdef", "bcdefg")))
        parts = tuple((one, low, high, "h") for one, low, high in zip("abcdefgh", ("-", *"abcdefg"), (*"abcdefg", "+")))
        self.assertEqual(least_looks(line, parts), 3)
        self.assertEqual(depth(line, form(line, parts)), 7)
        self.shown(line, parts)

    def shown(self, frame, layout):
        word, tree, asker = paper = on_looks(frame, layout)
        self.assertEqual(word, "looks")
        self.assertIs(is_right_tree(frame, layout, tree), True)
        self.assertEqual((depth(frame, tree), asker[0]), (least_looks(frame, layout), ((), (), least_looks(frame, layout))))
        self.assertEqual(check_looks(frame, layout, paper), least_looks(frame, layout))
        self.assertEqual(list(asker), sorted(set(asker)))
        self.assertLessEqual(len(asker), 900)
        self.assertTrue(holds_plainly(frame, map_of(frame, layout), asker))
        return paper

    def test_papers_hold(self):
        for at, frame in enumerate(few_frames()):
            for layout in layouts_for(frame, at + 30):
                self.shown(frame, layout)
        self.assertEqual(on_looks(AB, WHOLE), ("looks", "x", (((), (), 0),)))
        self.assertEqual(on_looks(AB, BY_B), ("looks", ("b", "x", "y"), (((), (), 1),)))

    def test_papers_of_large_frames(self):
        chance = Random(5)
        for frame in (SEVEN, (tuple("abcdef"), (("a", "upto", "b"),)), (tuple("abcdefg"), (("c", "ahead", "g"),))):
            for many in (1, 3, 5):
                terms = ["-"]
                for _ in range(many):
                    terms.append(("greatest", terms[-1], mixed_term(list(frame[0]), chance, 3)))
                layout = tuple((one, low, high, "h") for one, low, high in zip("pqrst", terms, terms[1:] + ["+"]))
                try:
                    self.shown(frame, layout)
                except TooMany as error:
                    self.assertEqual((error.most, frame), (900, SEVEN))

    def test_too_many_rows(self):
        rows = on_looks(AB, ODDLY)[2]
        with patch.object(looks, "MOST_ROWS", len(rows)):
            self.assertEqual(on_looks(AB, ODDLY)[2], rows)
        with patch.object(looks, "MOST_ROWS", len(rows) - 1):
            self.refused(TooMany, {"most": len(rows) - 1}, on_looks, AB, ODDLY)
        self.assertEqual(looks.MOST_ROWS, 900)

    def test_seven_looks_at_seven_names(self):
        # The numbers of NAMEs in the CUT, from 0 to 7, tell eight PARTs apart.
        terms = ["-"] + [("least", *[("greatest", *some) for some in combinations("abcdefg", many)])
                         for many in (1, 2)] + [("least", *"abcdefg")]
        layout = (("p", "-", terms[1], "h"), ("q", terms[1], terms[2], "h"), ("r", terms[2], "+", "h"))
        self.assertEqual(least_looks(SEVEN, layout), 7)
        self.shown(SEVEN, layout)


def holds_plainly(frame, things, rows):
    """Whether an asker holds, by the words of the document."""
    names, facts = frame
    things = dict(zip(cuts(frame), things))
    known = {row[:2]: row[2] for row in rows}
    for yes, no, least in rows:
        if least > 0 and len({things[cut] for cut in open_in(frame, (yes, no))}) < 2:
            return False
        for name in names if least > 1 else ():
            if name not in yes and name not in no:
                more = [state for state in closed_states(frame)
                        if set(state[0]) >= set(yes) and set(state[1]) >= set(no) and name in state[0] + state[1]]
                sides = [min([state for state in more if name in state[side]], key=lambda one: len(one[0] + one[1]))
                         for side in (0, 1)]
                if not any(known.get(state, 0) >= least - 1 for state in sides):
                    return False
    return True


class CheckLooks(Refusals):
    def no(self, part, frame, layout, paper):
        self.refused(BadPaper, {"part": part}, check_looks, frame, layout, paper)

    def test_wrong_forms(self):
        right = on_looks(AB, ODDLY)
        self.assertEqual(check_looks(AB, ODDLY, right), 2)
        _, tree, rows = right
        for paper in WRONG + (("looks", tree), ("looks", tree, rows, ()), ["looks", tree, rows], ("Looks", tree, rows),
                              (tree, rows), (ODD, tree, rows), ("looks", ODD, rows), ("looks", tree, ODD)):
            self.no("form", AB, ODDLY, paper)
        for wrong in WRONG + (("a", "x"), ("c", "x", "y"), "X"):
            if wrong is not None and wrong != "a" and wrong != "z" * 6:
                self.no("form", AB, ODDLY, ("looks", wrong, rows))
            self.no("form", AB, ODDLY, ("looks", tree, wrong))
            self.no("form", AB, ODDLY, ("looks", tree, (wrong,)))
            self.no("form", AB, ODDLY, ("looks", tree, rows + (wrong,)))

    def test_wrong_rows(self):
        top = ((), (), 2)
        for rows in ((), [top], (((), (), -1),), (((), (), 8),), (((), (), True),), (((), (), None),), (((), (), "2"),),
                     (((), ()),), (((), (), 2, 0),), ([(), (), 2],), (([], (), 2),), (((), [], 2),), (top, top),
                     (top, ((), (), 1)), (((), (), 1), top), (((), ("a",), 1),), ((("a",), (), 1), top),
                     (((), ("b",), 1), top), (top, (("a",), (), 1), (("a",), (), 0)), (top, (("a",), (), 1), (("a",), (), 1)),
                     (top, (("b",), (), 1), (("a",), (), 1)), (top, (("b", "a"), (), 1)), (top, (("a", "a"), (), 1)),
                     (top, (("a",), ("a",), 1)), (top, (("c",), (), 1)), (top, (("a",), ("c",), 1)), (top, ("a", (), 1)),
                     (top, (("a",), (), ODD)), (top, (ODD, (), 1)), (top, ((ODD,), (), 1)), (top, ((), (ODD,), 1))):
            self.no("form", AB, ODDLY, ("looks", "x", rows))
        # STATEs that are not CLOSED: with b goes a, without a there is no b.
        for row in ((("b",), (), 1), ((), ("a",), 1), (("b",), ("a",), 1)):
            self.no("form", LINE, ODDLY, ("looks", "x", (top, row)))
        for row in ((("a", "b"), (), 0), ((), ("a", "b"), 0), (("a",), ("b",), 0), (("a",), (), 0), ((), ("b",), 0)):
            self.no("tree", LINE, ODDLY, ("looks", "x", (top, row)))
            self.assertEqual(check_looks(LINE, WHOLE, ("looks", "x", (((), (), 0), row))), 0)

    def test_the_words_in_order(self):
        word, tree, rows = on_looks(AB, ODDLY)
        lazy = ("b", ("a", ("a", "x", "q"), "y"), ("a", "y", "z"))
        for paper, part in (((word, tree, (((), (), 0),)), "depth"), ((word, lazy, rows), "depth"),
                            ((word, "x", (((), (), 7),)), "tree"), ((word, tree, (((), (), 7),)), "asker"),
                            ((word, None, rows), "tree"), ((word, lazy, (((), (), 3),)), "asker"),
                            ((word, tree, (((), (), 2),)), "asker"), ((word, lazy, (((), (), 1),)), "depth"),
                            ((word, tree, (((), (), 1),)), "depth"), ((word, tree, rows[:1]), "asker")):
            self.no(part, AB, ODDLY, paper)
        # A LAYOUT without a MAP comes behind "form", and ahead of all other words.
        self.assertRaises(BadQuestion, check_looks, AB, TWICE, (word, "x", rows))
        self.no("form", AB, TWICE, (word, "x", ()))
        for call in (least_looks, on_looks, wanted_names, fewest_names):
            self.in_order(call, (AB, ODDLY), ((0, None, BadFrame), (1, None, BadLayout)))
            self.assertRaises(BadQuestion, call, AB, TWICE)
        self.in_order(check_looks, (AB, ODDLY, (word, tree, rows)), ((0, None, BadFrame), (1, None, BadLayout), (2, 0, BadPaper)))
        self.in_order(enough, (AB, ODDLY, ()), ((0, None, BadFrame), (1, None, BadLayout), (2, None, BadNames)))
        self.assertRaises(BadQuestion, enough, AB, TWICE, ())
        self.assertRaises(BadNames, enough, AB, TWICE, ("b", "a"))

    def test_askers_row_by_row(self):
        told = set()
        for at, frame in enumerate(few_frames()):
            for layout in layouts_for(frame, at + 60, 2, 4):
                word, tree, rows = on_looks(frame, layout)
                askers = [rows[:number] + rows[number + 1:] for number in range(1, len(rows))]
                askers += [tuple((*row[:2], row[2] + (number == other)) for other, row in enumerate(rows))
                           for number in range(len(rows)) if rows[number][2] < 7]
                askers += [tuple((*row[:2], max(row[2] - (number == other), 0)) for other, row in enumerate(rows))
                           for number in range(1, len(rows))]
                askers += [(((), (), rows[0][2]), *[(*state, 0) for state in closed_states(frame)[1:]])]
                for asker in askers:
                    is_so = holds_plainly(frame, map_of(frame, layout), asker)
                    told.add(is_so)
                    if not is_so:
                        self.no("asker", frame, layout, (word, tree, asker))
                    elif asker[0][2] == rows[0][2]:
                        self.assertEqual(check_looks(frame, layout, (word, tree, asker)), rows[0][2])
        self.assertEqual(told, {True, False})

    def test_many_rows(self):
        rows = tuple((*state, 0) for state in closed_states(SEVEN))
        self.assertEqual(len(rows), 3 ** 7)
        self.assertEqual(check_looks(SEVEN, WHOLE, ("looks", "x", rows[:900])), 0)
        self.assertEqual(check_looks(SEVEN, WHOLE, ("looks", "x", rows[:1])), 0)
        for many in (901, 902, 2187):
            self.no("form", SEVEN, WHOLE, ("looks", "x", rows[:many]))
        self.no("asker", SEVEN, WHOLE, ("looks", "x", (((), (), 1),) + rows[1:900]))
        self.no("depth", SEVEN, WHOLE, ("looks", ("a", "x", "x"), rows[:900]))

    def test_rows_that_are_not_met_may_stand_there(self):
        word, tree, rows = on_looks(AB, BY_B)
        self.assertEqual(check_looks(AB, BY_B, (word, tree, rows + ((("a",), (), 1), (("b",), (), 0)))), 1)
        self.no("asker", AB, BY_B, (word, tree, rows + ((("b",), (), 1),)))


class Enough(Refusals):
    def test_all_names_of_small_frames(self):
        seen = set()
        for at, frame in enumerate(few_frames()):
            names = frame[0]
            for layout in layouts_for(frame, at + 20):
                things = dict(zip(cuts(frame), map_of(frame, layout)))
                right = []
                for many in range(len(names) + 1):
                    for some in combinations(names, many):
                        pair = enough(frame, layout, some)
                        apart = [(one, other) for one, other in combinations(cuts(frame), 2)
                                 if set(one) & set(some) == set(other) & set(some) and things[one] != things[other]]
                        self.assertEqual(pair is None, not apart)
                        if pair is None:
                            right.append(some)
                        else:
                            self.assertIn(pair, apart)
                self.assertEqual(fewest_names(frame, layout), right[0])
                wanted = tuple(name for name in names if tuple(one for one in names if one != name) not in right)
                self.assertEqual(wanted_names(frame, layout), wanted)
                seen.add((len(right[0]), len(wanted)))
        self.assertGreater(len(seen), 6)

    def test_some(self):
        self.assertEqual(enough(AB, ODDLY, ()), ((), ("a",)))
        self.assertIn(enough(AB, ODDLY, ("a",)), (((), ("b",)), (("a",), ("a", "b"))))
        self.assertIsNone(enough(AB, ODDLY, ("a", "b")))
        self.assertIsNone(enough(AB, BY_B, ("b",)))
        self.assertIsNone(enough(AB, WHOLE, ()))
        self.assertEqual((wanted_names(AB, BY_B), fewest_names(AB, BY_B)), (("b",), ("b",)))
        self.assertEqual((wanted_names(AB, ODDLY), fewest_names(AB, ODDLY)), (("a", "b"), ("a", "b")))
        self.assertEqual((wanted_names(AB, WHOLE), fewest_names(AB, WHOLE)), ((), ()))
        # Of equal NAMEs neither is WANTED, and the first one is enough.
        equal = (("a", "b", "c"), (("b", "upto", "c"), ("c", "upto", "b")))
        layout = (("x", "-", "c", "h"), ("y", "c", "+", "h"))
        self.assertEqual((wanted_names(equal, layout), fewest_names(equal, layout)), ((), ("b",)))
        self.assertIsNone(enough(equal, layout, ("c",)))
        self.assertEqual(enough(equal, layout, ("a",))[0], ())
        # A NAME that no PART stands at may tell of another one.
        self.assertIsNone(enough(LINE, (("x", ("least", "a", "b"), ("greatest", "a", "b"), "h"),), ("a", "b")))

    def test_names_of_anything(self):
        for names in WRONG + (["a"], ("b", "a"), ("a", "a"), ("c",), ("a", "c"), ("a", None), "a", ("a", "b", "b"), ("-",),
                              ("a", ODD), (("a",), "b"), {"a": 1}):
            if not (isinstance(names, tuple) and names == ()):
                self.bad(BadNames, names, enough, AB, ODDLY, names)


class Facts(Refusals):
    def test_the_states_that_are_tried_are_closed(self):
        self.assertEqual(len(closed_states(AB)), 9)
        self.assertEqual(len(closed_states(LINE)), 6)
        for state in closed_states(LINE):
            self.assertTrue(open_in(LINE, state))
        self.assertTrue(keeps(*LINE, (1, 2)))
        self.assertEqual(tree_map(AB, form(AB, ODDLY)), map_of(AB, ODDLY))

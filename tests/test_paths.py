from namedcuts.cases import stages
from namedcuts.cuts import cuts
from namedcuts.errors import (BadBook, BadCut, BadFrame, BadLayout, BadPath, BadQuestion, BadScript, TooMany)
from namedcuts.layouts import parts_of
from namedcuts.paths import need_path, path_of, paths
from namedcuts.terms import has
from plain import BOOK, any_layouts, has_plainly, mixed_scripts, right_layouts
from refusals import Refusals
from trials import ODD, WRONG, few_frames

AB = (("a", "b"), ())
ONE = (("p", "-", "+", "home"),)
TWO = (("p", "-", "a", "home"), ("q", "a", "+", "hut"))
A, B, C = ("a", "x"), ("b", "x"), ("c", "y")
TRIPLE = (A, (B,), (C,))


def sites(number):
    return tuple(sorted((one + other, "h") for one in "abcde" for other in "abcdefg")[:number])


class NeedPath(Refusals):
    def no(self, place, thing):
        self.refused(BadPath, {"place": place}, need_path, thing)

    def test_paths(self):
        for path in ((TRIPLE,), (TRIPLE,) * 5, (((), (), ()),), (((), (A,), (B,)), (A, (), (("a", "y"),))), ((A, sites(16), ()),),
                     (((), sites(16), (("f", "x"), ("g", "x"))),), ((A, (), (B, C)),), ((("zzzzzz", "zzzzzz"), (), ()),)):
            self.assertIs(need_path(path), path)

    def test_no_tuple_of_one_to_five(self):
        for thing in WRONG + ([TRIPLE], (), (TRIPLE,) * 6, "path"):
            if not isinstance(thing, tuple) or not 1 <= len(thing) <= 5:
                self.no((), thing)

    def test_no_triples(self):
        wrong = list(WRONG) + [
            (A, (B,)), (A, (B,), (C,), ()), [A, (B,), (C,)], (A, [B], (C,)), (A, (B,), [C]), (list(A), (), ()), (("a",), (), ()),
            (("a", "x", "y"), (), ()), (("a", "X"), (), ()), (("", "x"), (), ()), (("a", None), (), ()), (A, B, C), (None, (), ()),
            ([], (), ()), (A, (A,), ()), (A, (), (A,)), (A, (B,), (B,)), ((), (B,), (B,)), (A, (B, B), ()), (A, (C, B), ()),
            (A, (), (C, B)), (A, (), (B, B)), (A, sites(17), ()), (A, (), sites(17)), (A, ((),), ()), (A, (), ((),)), (A, ("b",), ()),
            (A, ((B,),), ()), (A, (B, ODD), ()), (ODD, (), ()), (A, ODD, ()), (A, (), ODD), ((ODD, "x"), (), ()), (("a", ODD), (), ()),
            (A, ((ODD, ODD),), ()), (("a", "toolong"), (), ()), ("ab", (), ()), (A, "", ""), (A, None, None), (0, (), ()), (False, (), ())]
        for thing in wrong:
            if repr(thing) == "((), (), ())":
                continue
            self.no((0,), (thing,))
            self.no((1,), (TRIPLE, thing, thing))
            self.no((4,), (TRIPLE,) * 4 + (thing,))


class PathOf(Refusals):
    def test_below_and_above(self):
        for at, frame in enumerate(few_frames()):
            layouts = right_layouts(frame, 3, at) + any_layouts(frame, 6, at)
            for layout in layouts:
                for cut in cuts(frame):
                    within = parts_of(frame, layout, cut)
                    if len(within) > 1:
                        self.refused(BadQuestion, {}, path_of, frame, (layout,), cut)
                        continue
                    seat = [(name, house) for name, _, _, house in layout if name in within]
                    low = {(name, house) for name, low, _, house in layout if has(frame, cut, low)}
                    every = {(name, house) for name, _, _, house in layout}
                    triple = (seat[0] if seat else (), tuple(sorted(low - set(seat))), tuple(sorted(every - low)))
                    self.assertEqual(path_of(frame, (layout,), cut), (triple,))
                    self.assertEqual(path_of(frame, (layout, (), layout), cut), (triple, ((), (), ()), triple))

    def test_some(self):
        layout = (("p", "-", "a", "home"), ("q", "a", "b", "hut"), ("r", "b", "+", "home"))
        p, q, r = ("p", "home"), ("q", "hut"), ("r", "home")
        self.assertEqual(path_of(AB, (layout,), ()), ((p, (), (q, r)),))
        self.assertEqual(path_of(AB, (layout,), ("a",)), ((q, (p,), (r,)),))
        self.assertEqual(path_of(AB, (layout,), ("a", "b")), ((r, (p, q), ()),))
        self.assertRaises(BadQuestion, path_of, AB, (layout,), ("b",))
        self.assertEqual(path_of(AB, (layout[:1], layout[1:]), ("a",)), (((), (p,), ()), (q, (), (r,))))
        # A PART with bounds the wrong way about is BELOW if its LO is HAD.
        self.assertEqual(path_of(AB, ((("q", "b", "a", "hut"),),), ("a", "b")), (((), (q,), ()),))
        self.assertEqual(path_of(AB, ((("q", "b", "a", "hut"),),), ("a",)), (((), (), (q,)),))

    def test_errors_in_order(self):
        self.in_order(path_of, (AB, (TWO,), ()), ((0, None, BadFrame), (1, (), BadPath), (2, None, BadCut)))
        self.in_order(path_of, (AB, (TWO,), ()), ((0, None, BadFrame), (1, (TWO, None), BadLayout), (2, None, BadCut)))
        for layouts in WRONG + ((TWO,) * 6, (), [TWO]):
            if isinstance(layouts, tuple) and 1 <= len(layouts) <= 5:
                continue
            self.refused(BadPath, {"place": ()}, path_of, AB, layouts, None)
        self.assertEqual(len(path_of(AB, (TWO,) * 5, ())), 5)
        for layouts, part, number in (((TWO, None, 1), "form", None), ((TWO, (None,)), "form", 0), ((TWO[::-1],), "order", 1),
                                      ((TWO, TWO, (("p", "c", "+", "h"),), None), "lo", 0), ((TWO + (("r", "a", "c", "h"),),), "hi", 2)):
            self.refused(BadLayout, {"part": part, "number": number}, path_of, AB, layouts, None)
        twice = ONE + (("q", "-", "+", "h"),)
        self.bad(BadCut, cut := ("b", "a"), path_of, AB, (twice,), cut)
        self.refused(BadQuestion, {}, path_of, AB, (TWO, twice), ())


def paths_plainly(frame, book, layout, script):
    """All paths of a script, by its stages: with the facts of the first case, and the first cut, that has each."""
    found = {}
    for facts, pairs in stages(frame, book, layout, script):
        new = (frame[0], frame[1] + facts)
        for cut in cuts(new):
            path = []
            for deed, parts in pairs:
                inside = [part for part in parts if has_plainly(cut, part[1]) and not has_plainly(cut, part[2])]
                low = [(part[0], part[3]) for part in parts if part not in inside and has_plainly(cut, part[1])]
                high = [(part[0], part[3]) for part in parts if not has_plainly(cut, part[1])]
                path.append(((inside[0][0], inside[0][3]) if inside else (), tuple(sorted(low)), tuple(sorted(high))))
            found.setdefault(tuple(path), (facts, cut))
    return tuple((path, *found[path]) for path in sorted(found))


def is_clear(frame, book, layout, script):
    """Whether no error of paths behind those of cases is due."""
    found = stages(frame, book, layout, script)
    if any(deed and deed[0] == "call" for _, pairs in found for deed, _ in pairs) or any(len(pairs) > 5 for _, pairs in found):
        return False
    return all(len([part for part in parts if has_plainly(cut, part[1]) and not has_plainly(cut, part[2])]) < 2
               for facts, pairs in found for _, parts in pairs for cut in cuts((frame[0], frame[1] + facts)))


class Paths(Refusals):
    def test_paths_of_scripts(self):
        many = 0
        for at, frame in enumerate(few_frames()):
            for layout in (ONE, (("p", "-", frame[0][0], "home"), ("q", frame[0][0], "+", "hut"))):
                for script in mixed_scripts(frame, 120, at, BOOK, 4):
                    if is_clear(frame, BOOK, layout, script):
                        found = paths(frame, BOOK, layout, script)
                        self.assertEqual(found, paths_plainly(frame, BOOK, layout, script))
                        for path, _, _ in found:
                            self.assertIs(need_path(path), path)
                        many += len(found) > 2
                    else:
                        self.assertRaises((BadQuestion, TooMany), paths, frame, BOOK, layout, script)
        self.assertGreater(many, 30)

    def test_deeds_that_make_editions(self):
        p, q, r = ("p", "home"), ("q", "hut"), ("q", "home")
        for deed, ends in ((("split", "q", "b", "q", "r"), None), (("join", "p", "q", "p"), (p, (), ())), (("shift", "p", "q", "b"), (p, (), (q,))),
                           (("move", "p", "hut"), (("p", "hut"), (), (q,))), (("off", "p"), ((), (), (q,))), (("off", "q"), (p, (), ())),
                           (("on", "q", "a", "+", "home"), (p, (), (r,)))):
            layout = TWO[:1] if deed[0] == "on" else TWO
            found = paths(AB, (), layout, (deed,))
            self.assertEqual({len(path) for path, _, _ in found}, {2})
            if ends:
                self.assertIn(ends, [path[1] for path, _, _ in found])
        for script in ((), (("need", "a", "a"),), (("if", "a", "b", (("need", "a", "b"),), ()),), (("need", "-", "+"),) * 9):
            found = paths(AB, (), TWO, script)
            self.assertEqual([path for path, _, _ in found], [((p, (), (q,)),), ((q, (p,), ()),)])
            self.assertEqual([cut for _, _, cut in found], [(), ("a",)])
        # A DEED that changes nothing makes an EDITION, too.
        self.assertEqual(paths(AB, (), ONE, (("move", "p", "home"),) * 4), (((((p, (), ()),) * 5), (), ()),))

    def test_facts_and_cuts_of_the_first_case(self):
        script = (("if", "a", "b", (("move", "p", "hut"),), ()),)
        self.assertEqual(paths(AB, (), ONE, script), (
            (((("p", "home"), (), ()),), (("b", "ahead", "a"),), ()),
            (((("p", "home"), (), ()), (("p", "hut"), (), ())), (("a", "upto", "b"),), ())))
        # CUTs that are none any more in a CASE have no PATH there.
        found = paths(AB, (), (("p", "-", "b", "home"), ("q", "b", "+", "hut")), (("need", "a", "b"), ("split", "q", "a", "q", "r")))
        self.assertNotIn(("b",), [cut for _, facts, cut in found if facts == (("a", "upto", "b"),)])
        self.assertIn(("a", "b"), [cut for _, facts, cut in found if facts == (("a", "upto", "b"),)])
        # A CUT in no PART.
        self.assertEqual(paths(AB, (), (), ()), (((((), (), ()),), (), ()),))

    def test_five_editions_and_six(self):
        move = ("move", "p", "hut")
        self.assertEqual(len(paths(AB, (), ONE, (move,) * 4)[0][0]), 5)
        self.refused(TooMany, {"most": 5}, paths, AB, (), ONE, (move,) * 5)
        self.assertEqual(len(paths(AB, (), ONE, (move, ("need", "a", "a")) * 4)[0][0]), 5)
        # What stops it ahead of the sixth one, in some CASE or in all.
        self.assertEqual(len(paths(AB, (), ONE, (move,) * 4 + (("move", "q", "hut"), move))[0][0]), 5)
        self.refused(TooMany, {"most": 5}, paths, AB, (), ONE, (move,) * 4 + (("need", "a", "b"), move))
        self.refused(TooMany, {"most": 5}, paths, AB, (), ONE, (move,) * 4 + (("need", "a", "b"), ("need", "b", "a"), move))

    def test_errors_in_order(self):
        args = (AB, (), ONE, ())
        self.in_order(paths, args, ((0, None, BadFrame), (1, None, BadBook), (2, None, BadLayout), (3, None, BadScript)))
        move, call = ("move", "p", "hut"), (("call", "p", "q"), ("call", "q", "p"))
        frame = (tuple("abcdefg"), ())
        many = tuple(("if", one, other, (), ()) for one, other in zip("abcdef", "bcdefg")) * 2
        many += (("if", "a", "g", (), ()), ("if", "b", "f", (), ()), ("if", "a", "e", (), ()), ("if", "c", "g", (), ()))
        twice = (("on", "q", "a", "+", "h"),)
        self.refused(TooMany, {"most": 200}, paths, frame, (), ONE, many + call + (move,) * 6 + twice)
        self.refused(BadQuestion, {}, paths, AB, (), ONE, call + (move,) * 6 + twice)
        self.refused(BadQuestion, {}, paths, AB, (), ONE, (("need", "a", "b"), *call))
        self.refused(TooMany, {"most": 5}, paths, AB, (), ONE, twice + (move,) * 6)
        self.refused(BadQuestion, {}, paths, AB, (), ONE, twice)
        self.refused(BadQuestion, {}, paths, AB, (), ONE, (("need", "a", "b"), ("need", "b", "a"), *twice))
        self.refused(BadQuestion, {}, paths, AB, (), ONE + (("q", "-", "+", "h"),), (("off", "q"),))
        self.assertEqual(len(paths(AB, (), ONE, (("call", "q", "p"), *call))), 1)
        self.assertEqual(len(paths(AB, (), ONE, (("off", "p"), ("on", "q", "a", "+", "h")))), 2)

    def test_a_case_with_more_than_sixty_facts(self):
        frame = (("a", "b"), (("a", "upto", "b"),) * 60)
        found = paths(frame, (), ONE, (("if", "b", "a", (("move", "p", "hut"),), ()),))
        self.assertEqual([facts for _, facts, _ in found], [(("a", "ahead", "b"),), (("b", "upto", "a"),)])

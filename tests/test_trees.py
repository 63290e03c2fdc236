from itertools import product
from random import Random

from namedcuts.cases import stages
from namedcuts.cuts import cuts
from namedcuts.errors import BadCut, BadDeed, BadFrame, BadLayout, BadQuestion, BadTree, TooMany
from namedcuts.layouts import is_right
from namedcuts.maps import map_of, route_alike
from namedcuts.terms import has
from namedcuts.trees import depth, form, is_right_tree, leaf, need_tree, stepped, tree_map, trimmed
from plain import any_layouts, first_layouts, mixed_scripts, right_layouts
from refusals import Refusals
from test_maps import has_map
from trials import ODD, WRONG, few_frames, mixed_term, nested

AB = (("a", "b"), ())
LINE = (("x", "-", "a", "hut"), ("y", "a", ("greatest", "a", "b"), "home"), ("z", ("greatest", "a", "b"), "+", "home"))
TWICE = (("x", "-", "+", "h"), ("y", "-", "+", "h"))


def mixed_tree(names, chance, deep, leaves=("x", "y", "z", None)):
    """A tree with looks at any names, the same one again and again, too."""
    if deep == 0 or chance.random() < 0.2:
        return chance.choice(leaves)
    return (chance.choice(names), mixed_tree(names, chance, deep - 1, leaves), mixed_tree(names, chance, deep - 1, leaves))


def trees_to_try(frame, many, seed):
    chance = Random(seed)
    return ["x", None] + [mixed_tree(frame[0], chance, chance.randint(0, 5)) for _ in range(many)]


def leaf_plainly(tree, cut):
    if not isinstance(tree, tuple):
        return tree
    return leaf_plainly(tree[2 if tree[0] in cut else 1], cut)


def looks_in(tree):
    return 1 + looks_in(tree[1]) + looks_in(tree[2]) if isinstance(tree, tuple) else 0


def deep_in(tree):
    return 1 + max(deep_in(tree[1]), deep_in(tree[2])) if isinstance(tree, tuple) else 0


def line_of(many, name="a", end="x"):
    """A tree with so many looks on one way."""
    tree = end
    for _ in range(many):
        tree = (name, "y", tree)
    return tree


def tree_with(many):
    """A tree with so many looks, no way of which is long."""
    if many == 0:
        return "x"
    return ("a", tree_with((many - 1) // 2), tree_with(many - 1 - (many - 1) // 2))


class Trees(Refusals):
    def test_what_is_a_tree(self):
        for tree in ("x", "zzzzzz", "a", None, ("a", "x", None), ("b", ("a", "x", "y"), ("a", None, None)),
                     ("a", ("a", "x", "x"), "q"), tree_with(200), line_of(40), tree_with(199), line_of(39)):
            self.assertIs(need_tree(AB, tree), tree)
            self.assertEqual(depth(AB, tree), deep_in(tree))

    def test_bounds(self):
        self.assertEqual(looks_in(tree_with(200)), 200)
        for tree in (tree_with(201), tree_with(202), tree_with(4000), line_of(41), line_of(42), line_of(500),
                     ("a", line_of(40), "x"), ("b", "x", line_of(40)), ("a", tree_with(100), tree_with(100))):
            for call in (need_tree, depth, tree_map, trimmed):
                self.bad(BadTree, tree, call, AB, tree)
        # On the way by NO, and by both in turn.
        no = turned = "x"
        for many in range(42):
            for tree in (no, turned):
                if many <= 40:
                    self.assertIs(need_tree(AB, tree), tree)
                    self.assertEqual(depth(AB, tree), many)
                else:
                    self.bad(BadTree, tree, need_tree, AB, tree)
            no = ("a", no, "y")
            turned = ("b", turned, None) if many % 2 else ("a", "q", turned)
        # One thing that stands in many places is many things: no way may be gone without end.
        tree = "x"
        for _ in range(40):
            tree = ("a", tree, tree)
        self.bad(BadTree, tree, need_tree, AB, tree)
        self.bad(BadTree, deep := nested(5000), need_tree, AB, deep)
        self.bad(BadTree, deep := line_of(20000), need_tree, AB, deep)

    def test_trees_of_anything(self):
        inner = [thing for thing in WRONG if thing is not None]
        inner = [thing for thing in inner if not (isinstance(thing, str) and thing.islower() and 1 <= len(thing) <= 6)]
        things = inner + [("a", thing, "x") for thing in inner] + [("a", "x", ("b", thing, None)) for thing in inner]
        things += [(thing, "x", "y") for thing in WRONG] + [
            ["a", "x", "y"], ("a", ["b", "x", "y"], None), ("a", "x"), ("a", "x", "y", "z"), ("c", "x", "y"), ("a",),
            ("-", "x", "y"), (None, "x", "y"), ("a", "X", "y"), ("a", "x", "toolong"), ("x", "x", "y"), ("a", "", "x"),
            ("a", "x\n", "y"), ("a", ODD, "y"), ("a", "x", ("c", "y", "z")), (("a",), "x", "y")]
        for thing in things:
            for call in (need_tree, depth, tree_map, trimmed):
                self.bad(BadTree, thing, call, AB, thing)
            self.bad(BadTree, thing, leaf, AB, thing, None)
            self.bad(BadTree, thing, stepped, AB, thing, None)
            self.bad(BadTree, thing, is_right_tree, AB, TWICE, thing)

    def test_a_name_of_another_frame(self):
        self.assertEqual(need_tree((("c",), ()), ("c", "x", "y")), ("c", "x", "y"))
        self.bad(BadTree, tree := ("a", "x", "y"), need_tree, (("c",), ()), tree)

    def test_leaves_and_maps_cut_by_cut(self):
        for at, frame in enumerate(few_frames()):
            for tree in trees_to_try(frame, 25, at):
                self.assertEqual(depth(frame, tree), deep_in(tree))
                found = tuple(leaf_plainly(tree, cut) for cut in cuts(frame))
                self.assertEqual(tree_map(frame, tree), found)
                self.assertEqual(tuple(leaf(frame, tree, cut) for cut in cuts(frame)), found)

    def test_some_maps(self):
        self.assertEqual(tree_map(AB, "x"), ("x",) * 4)
        self.assertEqual(tree_map(AB, None), (None,) * 4)
        self.assertEqual(tree_map(AB, ("a", "x", ("b", "y", None))), ("x", "y", "x", None))
        self.assertEqual(tree_map(AB, ("a", ("a", "x", "never"), ("a", "never", "y"))), ("x", "y", "x", "y"))
        equal = (("a", "b"), (("a", "upto", "b"), ("b", "upto", "a")))
        self.assertEqual(tree_map(equal, ("a", ("b", "x", "never"), ("b", "never", "y"))), ("x", "y"))
        self.assertEqual(leaf(AB, ("a", "x", ("b", "y", "z")), ("a", "b")), "z")
        self.assertIsNone(leaf(AB, ("a", None, "y"), ("b",)))

    def test_right_trees(self):
        told = set()
        for at, frame in enumerate(few_frames()):
            for layout in [one for one in right_layouts(frame, 3, at) + any_layouts(frame, 10, at) if has_map(frame, one)]:
                names = tuple(part[0] for part in layout)[:3] + (None,)
                for tree in [form(frame, layout), ("a", form(frame, layout), "q"), "x", None] + [
                        mixed_tree(frame[0], Random(seed), 2, names) for seed in range(6)]:
                    is_so = all(thing == leaf_plainly(tree, cut) for thing, cut in zip(map_of(frame, layout), cuts(frame)))
                    self.assertIs(is_right_tree(frame, layout, tree), is_so)
                    told.add(is_so)
        self.assertEqual(told, {True, False})

    def test_leaves_to_which_no_cut_comes_do_not_matter(self):
        frame = (("a", "b"), (("a", "upto", "b"),))
        for idle in ("x", "q", None, ("a", "y", "y")):
            self.assertIs(is_right_tree(frame, LINE, ("a", ("b", "x", idle), ("b", "y", "z"))), True)
        self.assertIs(is_right_tree(AB, LINE, ("a", ("b", "x", "q"), ("b", "y", "z"))), False)
        self.assertIs(is_right_tree(AB, (), None), True)
        self.assertIs(is_right_tree(AB, (), "x"), False)

    def test_errors_in_order(self):
        self.in_order(leaf, (AB, "x", ()), ((0, None, BadFrame), (1, 1, BadTree), (2, ("c",), BadCut)))
        self.in_order(is_right_tree, (AB, LINE, "x"), ((0, (), BadFrame), (1, None, BadLayout), (2, 1, BadTree)))
        self.in_order(stepped, (AB, "x", ("off", "x")), ((0, 1, BadFrame), (1, 1, BadTree), (2, None, BadDeed)))
        self.in_order(form, (AB, LINE), ((0, None, BadFrame), (1, None, BadLayout)))
        for call in (need_tree, depth, tree_map, trimmed):
            self.in_order(call, (AB, "x"), ((0, None, BadFrame), (1, 1, BadTree)))
        self.assertRaises(BadQuestion, form, AB, TWICE)
        self.assertRaises(BadQuestion, is_right_tree, AB, TWICE, "x")
        self.assertRaises(BadTree, is_right_tree, AB, TWICE, 1)
        for cut in WRONG + (("b", "a"), ["a"], ("c",)):
            if not (isinstance(cut, tuple) and cut in ((), ("a",))):
                self.bad(BadCut, cut, leaf, AB, "x", cut)


def form_plainly(things, names):
    """The form of a map, a dict from cuts to things."""
    if len(set(things.values())) == 1:
        return list(things.values())[0]
    sides = [{cut: thing for cut, thing in things.items() if (names[0] in cut) == has_it} for has_it in (False, True)]
    if {} in sides:
        return form_plainly(things, names[1:])
    no, yes = [form_plainly(side, names[1:]) for side in sides]
    return no if no == yes else (names[0], no, yes)


class Forms(Refusals):
    def test_forms_of_layouts(self):
        for at, frame in enumerate(few_frames()):
            layouts = [one for one in right_layouts(frame, 5, at) + any_layouts(frame, 25, at) if has_map(frame, one)]
            for one in layouts:
                found = form(frame, one)
                self.assertEqual(found, form_plainly(dict(zip(cuts(frame), map_of(frame, one))), frame[0]))
                self.assertIs(is_right_tree(frame, one, found), True)
                self.assertEqual(trimmed(frame, found), found)
                for other in layouts:
                    self.assertIs(found == form(frame, other), route_alike(frame, one, other))

    def test_some_forms(self):
        self.assertEqual(form(AB, LINE), ("a", "x", ("b", "y", "z")))
        self.assertEqual(form(AB, LINE[1:]), ("a", None, ("b", "y", "z")))
        self.assertIsNone(form(AB, ()))
        self.assertEqual(form(AB, (("q", "-", "+", "h"),)), "q")
        self.assertEqual(form(AB, (("q", "-", "b", "h"), ("r", "b", "+", "h"))), ("b", "q", "r"))
        # With equal NAMEs only the first one is looked at.
        equal = (("a", "b"), (("a", "upto", "b"), ("b", "upto", "a")))
        self.assertEqual(form(equal, (("q", "-", "b", "h"), ("r", "b", "+", "h"))), ("a", "q", "r"))
        # Where all have the first NAME, or none has it, the next one is looked at.
        line = (("a", "b"), (("b", "upto", "a"),))
        self.assertEqual(form(line, (("q", "-", "b", "h"), ("r", "b", "a", "h"), ("s", "a", "+", "h"))),
                         ("a", ("b", "q", "r"), "s"))

    def test_trimmed_trees(self):
        for at, frame in enumerate(few_frames()):
            for tree in trees_to_try(frame, 40, at + 50):
                found = trimmed(frame, tree)
                self.assertEqual(tree_map(frame, found), tree_map(frame, tree))
                self.assertEqual(found, trim_plainly(tree, cuts(frame)))
                self.assertEqual(trimmed(frame, found), found)
                self.assertLessEqual(looks_in(found), looks_in(tree))
                self.lean(found, cuts(frame))

    def lean(self, tree, some):
        """That no look is idle, or has the same sides."""
        if isinstance(tree, tuple):
            sides = [[cut for cut in some if tree[0] not in cut], [cut for cut in some if tree[0] in cut]]
            self.assertTrue(all(sides))
            self.assertNotEqual(tree[1], tree[2])
            self.lean(tree[1], sides[0])
            self.lean(tree[2], sides[1])

    def test_some_trimmed_trees(self):
        for tree, found in (("x", "x"), (None, None), (("a", "x", "x"), "x"), (("a", None, None), None),
                            (("a", ("a", "x", "y"), "z"), ("a", "x", "z")), (("a", "x", ("a", "y", "z")), ("a", "x", "z")),
                            (("a", ("b", "x", "y"), ("b", "x", "y")), ("b", "x", "y")),
                            (("b", ("a", ("b", "x", "q"), "y"), ("a", "x", ("b", "q", "y"))), ("a", "x", "y")),
                            (("a", ("b", "x", "x"), "x"), "x"), (("b", "x", ("a", "y", "x")), ("b", "x", ("a", "y", "x"))),
                            (("a", ("a", "x", ("b", "q", "r")), ("a", ("b", "q", "r"), "x")), "x")):
            self.assertEqual(trimmed(AB, tree), found)
        line = (("a", "b"), (("a", "upto", "b"),))
        self.assertEqual(trimmed(line, ("b", ("a", "x", "y"), ("a", "q", "z"))), ("b", ("a", "x", "y"), "z"))
        self.assertEqual(trimmed(line, ("a", ("b", "x", "q"), ("b", "y", "z"))), ("a", "x", ("b", "y", "z")))
        # The form of the MAP may be another TREE, with its NAMEs in their order.
        self.assertEqual(trimmed(AB, ("b", ("a", "x", "y"), ("a", "x", "z"))), ("b", ("a", "x", "y"), ("a", "x", "z")))


def trim_plainly(tree, some):
    """Leaves out look after look, the lowest ones first, each by the cuts that come to it in the tree as it was."""
    if not isinstance(tree, tuple):
        return tree
    name = tree[0]
    no, yes = [cut for cut in some if name not in cut], [cut for cut in some if name in cut]
    low, high = trim_plainly(tree[1], no), trim_plainly(tree[2], yes)
    if not no or not yes:
        return high if yes else low
    return low if low == high else (name, low, high)


class Steps(Refusals):
    def stands(self, frame, tree, deed, told):
        """That behind a deed each cut has at its leaf what told tells, by what it had."""
        new = stepped(frame, tree, deed)
        for cut in cuts(frame):
            self.assertEqual(leaf_plainly(new, cut), told(leaf_plainly(tree, cut), cut), (tree, deed, cut))

    def test_each_deed_cut_by_cut(self):
        chance = Random(3)
        for at, frame in enumerate(few_frames()):
            for tree in trees_to_try(frame, 12, at + 90):
                term = mixed_term(list(frame[0]) + ["-", "+"], chance, 2)
                part, left, right = [chance.choice("xyzq") for _ in range(3)]

                def by_term(cut):
                    return right if has(frame, cut, term) else left
                self.stands(frame, tree, ("split", part, term, left, right),
                            lambda was, cut: by_term(cut) if was == part else was)
                self.stands(frame, tree, ("join", left, right, part),
                            lambda was, cut: part if was in (left, right) else was)
                self.stands(frame, tree, ("shift", left, right, term),
                            lambda was, cut: by_term(cut) if was in (left, right) else was)
                self.stands(frame, tree, ("call", part, left), lambda was, cut: left if was == part else was)
                self.stands(frame, tree, ("off", part), lambda was, cut: None if was == part else was)

    def test_looks_of_terms(self):
        for term, tree in (("a", ("a", "l", "r")), ("-", "r"), ("+", "l"), (("least", "a"), ("a", "l", "r")),
                           (("greatest", "-"), "r"), (("least", "a", "b"), ("a", ("b", "l", "r"), "r")),
                           (("greatest", "a", "b"), ("a", "l", ("b", "l", "r"))), (("least", "b", "a"), ("b", ("a", "l", "r"), "r")),
                           (("least", "a", "-", "b"), ("a", "r", "r")), (("least", "+", "b"), ("b", "l", "r")),
                           (("greatest", "a", "+", "b"), ("a", "l", "l")), (("greatest", "-", "b"), ("b", "l", "r")),
                           (("least", "a", ("greatest", "b", "a")), ("a", ("b", "l", ("a", "l", "r")), "r")),
                           (("greatest", ("least", "a", "b"), "a"), ("a", ("b", "l", ("a", "l", "r")), ("a", "l", "r"))),
                           (("least", "a", "a"), ("a", ("a", "l", "r"), "r"))):
            self.assertEqual(stepped(AB, "x", ("split", "x", term, "l", "r")), tree)
            self.assertEqual(stepped(AB, ("b", "l", "r"), ("shift", "l", "r", term)), ("b", tree, tree))

    def test_some_deeds(self):
        tree = ("a", "x", ("b", "x", "y"))
        for deed, new in ((("split", "x", "b", "x", "y"), ("a", ("b", "x", "y"), ("b", ("b", "x", "y"), "y"))),
                          (("split", "x", "b", "q", "x"), ("a", ("b", "q", "x"), ("b", ("b", "q", "x"), "y"))),
                          (("split", "x", "a", "x", "x"), ("a", ("a", "x", "x"), ("b", ("a", "x", "x"), "y"))),
                          (("split", "q", "a", "x", "y"), tree), (("split", "y", "-", "x", "q"), ("a", "x", ("b", "x", "q"))),
                          (("join", "x", "y", "x"), ("a", "x", ("b", "x", "x"))), (("join", "q", "y", "w"), ("a", "x", ("b", "x", "w"))),
                          (("join", "x", "x", "x"), tree), (("shift", "y", "x", "+"), ("a", "y", ("b", "y", "y"))),
                          (("shift", "y", "q", "a"), ("a", "x", ("b", "x", ("a", "y", "q")))), (("call", "x", "x"), tree),
                          (("shift", "x", "x", "b"), ("a", ("b", "x", "x"), ("b", ("b", "x", "x"), "y"))),
                          (("call", "x", "y"), ("a", "y", ("b", "y", "y"))), (("call", "q", "y"), tree),
                          (("off", "x"), ("a", None, ("b", None, "y"))), (("off", "q"), tree)):
            self.assertEqual(stepped(AB, tree, deed), new, deed)
        # What is None is no PART: no DEED has it.
        self.assertIsNone(stepped(AB, None, ("join", "x", "y", "x")))
        self.assertEqual(stepped(AB, ("a", None, "x"), ("off", "x")), ("a", None, None))

    def test_no_deed(self):
        deeds = WRONG + (
            ("need", "a", "b"), ("if", "a", "b", (), ()), ("do", "x", ()), ("move", "x", "hut"), ("on", "x", "-", "+", "h"),
            ("split",), ("split", "x", "a", "l"), ("split", "x", "a", "l", "r", "s"), ["split", "x", "a", "l", "r"],
            ("split", "x", ["least", "a"], "l", "r"), ("split", "x", "c", "l", "r"), ("split", "X", "a", "l", "r"),
            ("split", "x", "a", "", "r"), ("split", "x", "a", "l", None), ("split", "x", ("lo", "x"), "l", "r"),
            ("split", "x", ("least", "a", ("hi", "x")), "l", "r"), ("shift", "x", "y", ("lo", "x")), ("shift", "x", "y"),
            ("shift", "x", "y", ("greatest", ("hi", "y"))), ("shift", "x", "y", None), ("shift", None, "y", "a"),
            ("join", "x", "y"), ("join", "x", "y", "toolong"), ("join", "x", 1, "y"), ("join", "x", "y", "z", "w"),
            ("call", "x"), ("call", "x", None), ("call", True, "x"), ("off",), ("off", "x", "y"), ("off", None), ("off", "X"),
            ("off", ("x",)), ("Off", "x"), (ODD, "x"), ("off", ODD), ("call", "x", ODD), ("split", "x", ODD, "l", "r"),
            (None, "x"), ("", "x"), ("split", "x", nested(3000), "l", "r"), ("call", nested(3000), "x"))
        for deed in deeds:
            self.bad(BadDeed, deed, stepped, AB, "x", deed)
            # It comes ahead of too many LOOKs, which no such DEED would make.
            self.bad(BadDeed, deed, stepped, AB, tree_with(200), deed)

    def test_bounds_of_what_comes(self):
        tree = tree_with(100)
        self.assertEqual(looks_in(stepped(AB, ("a", "q", tree_with(198)), ("split", "q", "a", "l", "r"))), 200)
        self.refused(TooMany, {"most": 200}, stepped, AB, ("a", "q", tree_with(199)), ("split", "q", "a", "l", "r"))
        self.refused(TooMany, {"most": 200}, stepped, AB, tree, ("split", "x", "a", "x", "x"))
        self.assertEqual(deep_in(stepped(AB, line_of(39), ("split", "x", "b", "l", "r"))), 40)
        self.refused(TooMany, {"most": 40}, stepped, AB, line_of(40), ("split", "x", "b", "l", "r"))
        self.refused(TooMany, {"most": 40}, stepped, AB, line_of(39), ("split", "x", ("least", "a", "b"), "l", "r"))
        # Both: 200 comes first.
        self.refused(TooMany, {"most": 200}, stepped, AB, line_of(40), ("split", "x", large_term(), "l", "r"))
        self.refused(TooMany, {"most": 200}, stepped, AB, line_of(40), ("split", "y", ("least", *["b"] * 5), "l", "r"))
        self.assertEqual(stepped(AB, line_of(40), ("split", "q", large_term(), "l", "r")), line_of(40))
        self.assertEqual(stepped(AB, line_of(40), ("off", "x")), line_of(40, end=None))

    def test_lines_of_looks(self):
        for many, call in ((39, "least"), (40, "least"), (40, "greatest")):
            tree = stepped(AB, "x", ("split", "x", (call, *["a"] * many), "l", "r"))
            self.assertEqual((looks_in(tree), deep_in(tree)), (many, many))
        long = ("least", *["a"] * 40)
        self.refused(TooMany, {"most": 40}, stepped, AB, "x", ("split", "x", ("least", long, "b"), "l", "r"))
        self.refused(TooMany, {"most": 200}, stepped, AB, "x", ("split", "x", ("least", *[long] * 6), "l", "r"))
        # 300 NAMEs, 20 deep, of which no way could be gone through.
        self.refused(TooMany, {"most": 200}, stepped, AB, ("a", "x", "x"), ("shift", "x", "q", large_term()))

    def test_right_trees_stay_right(self):
        done = set()
        for at, frame in enumerate(few_frames()):
            for layout in first_layouts(frame) + right_layouts(frame, 2, at):
                if has_map(frame, layout) and len(layout) < 16:
                    self.follow(frame, layout, at, done)
        self.assertEqual(done, {"split", "join", "shift", "call", "off"})

    def follow(self, frame, layout, seed, done):
        for script in mixed_scripts(frame, 60, seed, book=(), most=1) + [
                (("join", one[0], other[0], "new"),) for one, other in product(layout, repeat=2)] + [
                (("shift", one[0], other[0], "a"),) for one, other in product(layout, repeat=2)]:
            if not script or script[0][0] not in ("split", "join", "shift", "call", "off"):
                continue
            if "('lo'" in str(script) or "('hi'" in str(script):
                continue
            for facts, pairs in stages(frame, (), layout, script):
                # Where the DEED is stopped in some WORLDs, it is done in those of one CASE.
                new = (frame[0], frame[1] + facts)
                if len(pairs) == 2 and has_map(new, layout) and has_map(new, pairs[1][1]):
                    tree = stepped(new, form(new, layout), script[0])
                    self.assertIs(is_right_tree(new, pairs[1][1], tree), True, (frame, layout, script))
                    done.add(script[0][0])

    def test_a_split_parts_by_its_term_alone(self):
        layout = (("x", "a", "b", "h"),)
        tree = form(AB, layout)
        self.assertEqual(tree, ("a", None, ("b", "x", None)))
        self.assertEqual(stepped(AB, tree, ("split", "x", "b", "l", "r")), ("a", None, ("b", ("b", "l", "r"), None)))
        self.assertIs(is_right(AB, layout), False)


def large_term():
    """A term within its bounds, the looks of which are far more than can be told one by one."""
    term = ("greatest", "a", "b")
    for _ in range(9):
        term = ("least", ("greatest", *["a", "b"] * 15, term), ("greatest", "b", "a"))
    return term


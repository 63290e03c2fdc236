from itertools import product
from random import Random

from namedcuts.asks import stretches
from namedcuts.errors import (BadAsk, BadCondition, BadFrame, BadLayout, BadPaper, BadQuestion, BadRule, BadTerm, BadWorld,
                              TooMany)
from namedcuts.frames import is_world
from namedcuts.layouts import empty
from namedcuts.planrules import check_rule, holds, need_rule, rule_fault, sharp_rule, textbook
from namedcuts.terms import normal
from plain import any_layouts, right_layouts
from plain_asks import asks_to_try, holds_for, mixed_condition, read_plainly, rules_to_try
from refusals import Refusals
from test_maps import has_map
from trials import ODD, WRONG, few_frames, nested, worlds_of

AB = (("a", "b"), ())
LINE = (("x", "-", "a", "hut"), ("y", "a", ("greatest", "a", "b"), "home"), ("z", ("greatest", "a", "b"), "+", "home"))
TWICE = (("x", "-", "+", "h"), ("y", "-", "+", "h"))
ALL = ("all",)
YES, NO = ("yes",), ("no",)
SIX = (tuple("abcdef"), ())


def ands(many, inner=YES):
    for _ in range(many):
        inner = ("and", (inner,))
    return inner


def conditions_with(many):
    """A condition with so many in all, 3 deep."""
    left = many - 1
    inner = []
    while left > 0:
        inner.append(min(left, 25))
        left -= inner[-1]
    return ("or", tuple(("and", (NO,) * (count - 1)) for count in inner))


def count(condition):
    return 1 + (sum(map(count, condition[1])) if condition[0] in ("and", "or") else 0)


def names_of(number):
    """So many names for parts, ascending."""
    return sorted("p" + one + other for one, other in product("abcde", repeat=2))[:number]


GOOD = (YES, NO, ("ahead", "a", "b"), ("upto", "-", ("least", "a", "+")), ("and", ()), ("or", ()), ("and", (YES, NO)), ands(3),
        ands(3, ("upto", "a", "a")), ands(2, ("and", ())), ("or", (YES,) * 40), conditions_with(100), ("and", (("or", (ands(1),)),)))
TOO_MUCH = (ands(4), ands(5), ands(4, ("or", ())), ("or", (YES,) * 41), conditions_with(101), ("and", (conditions_with(99), YES)),
            ("and", (YES,) * 3000), ands(5000), ("and", (("or", (YES,) * 40), ("or", (YES,) * 40), ("or", (YES,) * 20))))
NONE = tuple(thing for thing in WRONG) + (
    ["yes"], ("yes", ()), ("no", "a"), ("Yes",), ("ahead", "a"), ("ahead", "a", "b", "b"), ("ahead", "a", "c"), ("upto", ["a"], "b"),
    ("upto", "a", ("least",)), ("ahead", ("lo", "x"), "a"), ["ahead", "a", "b"], ("and",), ("and", YES), ("and", (), ()), ("or", [YES]), ("and", (YES, "no")),
    ("not", YES), ("or", (YES, ("ahead", "a", None))), (ODD,), (ODD, ()), (ODD, "a", "b"), ("ahead", ODD, "b"), ("upto", "a", ODD),
    ("and", ODD), ("or", (ODD,)), ("ahead", nested(3000), "a"), ("and", (nested(3000),)), ("need", "a", "b"))


class Rules(Refusals):
    def test_what_is_a_rule(self):
        self.assertEqual((count(conditions_with(100)), count(conditions_with(101))), (100, 101))
        for condition in GOOD:
            rule = (("x", condition),)
            self.assertIs(need_rule(AB, rule), rule)
            self.assertEqual(need_rule(AB, (("x", YES), ("y", condition))), (("x", YES), ("y", condition)))
            self.assertIs(type(holds(AB, condition, (1, 2))), bool)
        for rule in ((), tuple((name, YES) for name in names_of(16)), (("a", NO), ("zzzzzz", YES))):
            self.assertIs(need_rule(AB, rule), rule)

    def test_rules_of_anything(self):
        rules = list(thing for thing in WRONG if not (isinstance(thing, tuple) and thing == ()))
        rules += [(thing,) for thing in WRONG] + [(("x", thing),) for thing in NONE + TOO_MUCH] + [((thing, YES),) for thing in WRONG
                                                                                                   if thing not in ("a", "zzzzzz")]
        rules += [tuple((name, YES) for name in names_of(17)), (("y", YES), ("x", YES)), (("x", YES), ("x", YES)), (("x", YES), ("x", NO)),
                  [("x", YES)], (["x", YES],), (("x", YES, YES),), (("x",),), (("X", YES),), (("toolong", YES),), (("x", YES), ("y",)),
                  (("x", YES), ODD), ((ODD, YES),), (("x", YES), ("z", YES), ("y", YES)), {"x": YES}, ("x", YES)]
        for rule in rules:
            if isinstance(rule, tuple) and len(rule) == 1 and rule[0] in (("a", YES), ("zzzzzz", YES)):
                continue
            self.bad(BadRule, rule, need_rule, AB, rule)
            self.bad(BadRule, rule, rule_fault, AB, LINE, ALL, rule, True)
            self.bad(BadRule, rule, check_rule, AB, LINE, ALL, rule, None)

    def test_conditions_of_anything(self):
        for condition in NONE + TOO_MUCH:
            self.bad(BadCondition, condition, holds, AB, condition, None)
        inner = YES
        for _ in range(3):
            inner = ("or", (inner,) * 40)
        self.bad(BadCondition, inner, holds, AB, inner, (1, 2))
        self.in_order(holds, (AB, YES, (1, 2)), ((0, None, BadFrame), (1, None, BadCondition), (2, (1,), BadWorld)))
        for world in WRONG + ((1,), (1, 2, 3), (1, True), [1, 2]):
            self.bad(BadWorld, world, holds, AB, YES, world)

    def test_holds_in_all_worlds(self):
        chance = Random(2)
        for frame in few_frames():
            for _ in range(25):
                condition = mixed_condition(list(frame[0]) * 2 + ["-", "+"], chance, 3)
                for world in worlds_of(frame):
                    self.assertIs(holds(frame, condition, world), holds_for(condition, dict(zip(frame[0], world))))

    def test_some_hold(self):
        for condition, is_so in ((YES, True), (NO, False), (("and", ()), True), (("or", ()), False), (("ahead", "a", "b"), True),
                                 (("ahead", "b", "a"), False), (("upto", "a", "b"), True), (("upto", "b", "a"), False),
                                 (("ahead", "a", "a"), False), (("upto", "a", "a"), True), (("ahead", "-", "+"), True),
                                 (("ahead", "-", "-"), False), (("upto", "-", "-"), True), (("upto", "+", "+"), True),
                                 (("ahead", "+", "a"), False), (("upto", "a", "-"), False), (("ahead", "a", "+"), True),
                                 (("and", (YES, NO)), False), (("or", (YES, NO)), True)):
            self.assertIs(holds(AB, condition, (1, 2)), is_so)
        self.assertIs(holds(AB, ("ahead", "a", "b"), (2, 2)), False)
        self.assertIs(holds(AB, ("upto", "b", "a"), (2, 2)), True)


def faults(frame, layout, ask, rule):
    """The names of parts that are missed in some world, and that are idle in some."""
    found = {"missed": set(), "idle": set()}
    for world in worlds_of(frame):
        for word, name in faults_in(frame, layout, ask, rule, world):
            found[word].add(name)
    return found


def faults_in(frame, layout, ask, rule, world):
    read = read_plainly(frame, layout, ask, world)
    conditions = dict(rule)
    for name in [part[0] for part in layout]:
        taken = name not in conditions or holds_for(conditions[name], dict(zip(frame[0], world)))
        if taken != (name in read):
            yield "idle" if taken else "missed", name


def tried(rules=4):
    for at, frame in enumerate(few_frames()):
        for layout in right_layouts(frame, 2, at) + any_layouts(frame, 7, at):
            if has_map(frame, layout):
                for ask in asks_to_try(frame, 2, at) + [ALL]:
                    yield frame, layout, ask, [()] + rules_to_try(frame, layout, rules, at)


class Faults(Refusals):
    def test_faults_in_all_worlds(self):
        seen = set()
        for frame, layout, ask, rules in tried():
            for rule in rules:
                found = faults(frame, layout, ask, rule)
                for is_sharp in (True, False):
                    paper = rule_fault(frame, layout, ask, rule, is_sharp)
                    word = "missed" if found["missed"] else "idle" if found["idle"] and is_sharp else None
                    seen.add(word)
                    if word is None:
                        self.assertIsNone(paper)
                        continue
                    self.assertEqual(paper[0], word)
                    self.assertIs(is_world(frame, paper[2]), True)
                    self.assertIn((word, paper[1]), list(faults_in(frame, layout, ask, rule, paper[2])))
                    self.assertEqual(check_rule(frame, layout, ask, rule, paper), word)
        self.assertEqual(seen, {"missed", "idle", None})

    def test_check_rule_in_all_worlds(self):
        told = set()
        for frame, layout, ask, rules in tried(1):
            for rule in rules:
                for world in worlds_of(frame):
                    wrong = list(faults_in(frame, layout, ask, rule, world))
                    for word, part in product(("missed", "idle"), layout):
                        told.add((word, (word, part[0]) in wrong))
                        if (word, part[0]) in wrong:
                            self.assertEqual(check_rule(frame, layout, ask, rule, (word, part[0], world)), word)
                        else:
                            self.refused(BadPaper, {"part": word}, check_rule, frame, layout, ask, rule, (word, part[0], world))
        self.assertEqual(len(told), 4)

    def test_some(self):
        ask = ("from", "b")
        self.assertEqual(rule_fault(AB, LINE, ask, (), True)[:2], ("idle", "x"))
        self.assertIsNone(rule_fault(AB, LINE, ask, (), False))
        # A PART without a CONDITION is taken; "missed" comes ahead of "idle", whatever PART it is.
        rule = (("z", NO),)
        self.assertEqual(rule_fault(AB, LINE, ask, rule, True)[:2], ("missed", "z"))
        self.assertEqual(rule_fault(AB, LINE, ask, rule, False)[:2], ("missed", "z"))
        rule = (("x", ("ahead", "b", "a")), ("y", NO))
        self.assertIsNone(rule_fault(AB, LINE, ask, rule, True))
        self.assertIsNone(rule_fault(AB, LINE, ask, rule, False))
        rule = (("x", ("upto", "b", "a")), ("y", NO))
        self.assertEqual(rule_fault(AB, LINE, ask, rule, True)[:2], ("idle", "x"))
        self.assertEqual(len(set(rule_fault(AB, LINE, ask, rule, True)[2])), 1)
        # The names of no PART have no effect, even if they have many NAMEs.
        more = (("nopart", ("upto", "b", "a")), ("x", ("ahead", "b", "a")), ("y", NO))
        self.assertIsNone(rule_fault(AB, LINE, ask, more, True))
        self.assertIsNone(rule_fault(AB, (), ask, (("x", NO),), True))

    def test_too_many_names(self):
        names = ("least", *"abcdef")
        part, whole = (("x", "-", "a", "h"),), (("x", "-", "+", "h"),)
        for layout, ask, rule in ((part, ("from", names), ()), (part, ALL, (("x", ("ahead", names, "a")),)),
                                  ((("x", "-", names, "h"),), ALL, ()), ((("x", names, "+", "h"),), ALL, ()),
                                  ((("x", ("least", *"abc"), "+", "h"),), ("ahead", ("least", *"de")), (("x", ("upto", "f", "f")),)),
                                  (part, ("and", (("not", ("ahead", ("least", *"bcde"))),)), (("x", ("or", (("and", (("upto", "-", "f"),)),))),)),
                                  (whole + (("y", names, "-", "h"),), ALL, (("x", NO),))):
            for is_sharp in (True, False):
                self.refused(TooMany, {"most": 5}, rule_fault, SIX, layout, ask, rule, is_sharp)
        five = ("least", *"abcde")
        for layout, ask, rule in ((part, ("from", five), ()), (part, ALL, (("x", ("ahead", five, "a")),)), (whole, ALL, ()),
                                  ((("x", ("least", *"abc"), "+", "h"),), ("ahead", ("least", *"de")), (("x", ("upto", "e", "d")),)),
                                  (part, ALL, (("w", ("ahead", names, "a")),)), ((), ("from", names), ())):
            rule_fault(SIX, layout, ask, rule, True)
        self.assertIsNone(rule_fault(SIX, (), ("from", names), (), True))
        # Each PART has five of the NAMEs at most, though all together have more.
        layout = (("x", "-", "a", "h"), ("y", "a", ("greatest", *"ab"), "h"), ("z", ("greatest", *"ab"), "+", "h"))
        rule = (("x", ("ahead", "c", "d")), ("y", ("ahead", "e", "f")), ("z", YES))
        self.assertEqual(rule_fault(SIX, layout, ALL, rule, True)[:2], ("missed", "x"))
        # The NAMEs as they stand count, even where a TERM has a shorter NORMAL form.
        self.refused(TooMany, {"most": 5}, rule_fault, SIX, (("x", "-", ("greatest", "+", *"abcdef"), "h"),), ALL, (), False)
        twice = (("x", "-", names, "h"), ("y", "-", "+", "h"))
        self.assertRaises(BadQuestion, rule_fault, SIX, twice, ALL, (), True)

    def test_five_names_of_large_frames(self):
        names = tuple("abcdefg")
        frame = (names, (("a", "upto", "f"), ("f", "ahead", "b"), ("g", "upto", "c")))
        layout = (("x", "a", "b", "h"), ("y", ("greatest", "a", "b", "c"), ("least", "+", "d"), "h"))
        ask = ("or", (("ahead", "c"), ("from", "d")))
        rule = sharp_rule(frame, layout, ask)
        self.assertIsNone(rule_fault(frame, layout, ask, rule, True))
        self.assertEqual(rule_fault(frame, layout, ask, (("x", NO),), True)[:2], ("missed", "x"))
        # What is TOLD of two NAMEs by way of others holds, too: a is less than b in all WORLDs.
        self.assertIsNone(rule_fault(frame, layout[:1], ALL, (("x", ("ahead", "a", "b")),), True))
        self.assertIsNone(rule_fault(frame, layout[:1], ALL, (), True))

    def test_wrong_papers(self):
        papers = WRONG + (("missed", "x"), ("missed", "x", (1, 2), ()), ["missed", "x", (1, 2)], ("Missed", "x", (1, 2)), ("idle", "w", (1, 2)),
                          ("idle", None, (1, 2)), ("missed", "x", (1,)), ("missed", "x", [1, 2]), ("missed", "x", (1, True)),
                          ("missed", "x", (1, 2, 3)), (ODD, "x", (1, 2)), ("idle", ODD, (1, 2)), ("idle", "x", ODD), ("idle", "x", (ODD, 1)),
                          ("idle", "hut", (1, 2)), ("world", (1, 2), 3))
        for paper in papers:
            self.refused(BadPaper, {"part": "form"}, check_rule, AB, LINE, ALL, (), paper)
        line = (("a", "b"), (("a", "ahead", "b"),))
        self.refused(BadPaper, {"part": "form"}, check_rule, line, LINE, ALL, (), ("idle", "x", (2, 2)))

    def test_errors_in_order(self):
        args = (AB, LINE, ALL, ())
        wrong = ((0, None, BadFrame), (1, None, BadLayout), (2, None, BadAsk), (3, None, BadRule))
        self.in_order(rule_fault, (*args, True), wrong)
        self.in_order(check_rule, (*args, ("idle", "y", (2, 2))), wrong + ((4, None, BadPaper),))
        self.in_order(sharp_rule, args[:3], wrong[:3])
        self.in_order(textbook, (AB, LINE, "a", "b"), wrong[:2] + ((2, "c", BadTerm), (3, "d", BadTerm)))
        self.in_order(need_rule, (AB, ()), ((0, None, BadFrame), (1, None, BadRule)))
        self.bad(BadTerm, term := ("least",), textbook, AB, LINE, term, None)
        self.bad(BadTerm, term := ("lo", "x"), textbook, AB, LINE, "a", term)
        self.assertRaises(BadQuestion, rule_fault, AB, TWICE, ALL, (), True)
        self.assertRaises(BadRule, rule_fault, AB, TWICE, ALL, None, True)
        self.assertRaises(BadQuestion, check_rule, AB, TWICE, ALL, (), ("idle", "x", (1, 2)))
        self.refused(BadPaper, {"part": "form"}, check_rule, AB, TWICE, ALL, (), ("idle", "x", ()))
        self.assertRaises(BadQuestion, sharp_rule, AB, TWICE, ALL)
        self.assertRaises(BadQuestion, textbook, AB, TWICE, "a", "b")
        self.assertRaises(BadTerm, textbook, AB, TWICE, "a", "c")


class Told(Refusals):
    def test_sharp_rules_are_sharp(self):
        for frame, layout, ask, _ in tried():
            rule = sharp_rule(frame, layout, ask)
            self.assertIs(need_rule(frame, rule), rule)
            self.assertEqual(faults(frame, layout, ask, rule), {"missed": set(), "idle": set()})
            self.assertIsNone(rule_fault(frame, layout, ask, rule, True))
            self.assertEqual(rule, tuple((name, ("or", tuple(
                ("ahead", normal(frame, ("greatest", low, begin)), normal(frame, ("least", high, end)))
                for begin, end in stretches(frame, ask)))) for name, low, high, _ in layout))

    def test_some_sharp_rules(self):
        self.assertEqual(sharp_rule(AB, LINE, ("none",)), (("x", ("or", ())), ("y", ("or", ())), ("z", ("or", ()))))
        self.assertEqual(sharp_rule(AB, LINE[:1], ("from", "b")), (("x", ("or", (("ahead", "b", "a"),))),))
        self.assertEqual(sharp_rule(AB, (("x", ("least", "a", "a"), ("greatest", "b", "-"), "h"),), ALL), (("x", ("or", (("ahead", "a", "b"),))),))
        ask = ("or", (("ahead", ("least", "a", "b")), ("from", ("greatest", "a", "b"))))
        self.assertEqual(sharp_rule(AB, LINE[:1], ask), (
            ("x", ("or", (("ahead", "-", ("least", "a", "b")), ("ahead", ("greatest", "a", "b"), "a")))),))
        self.assertEqual(sharp_rule(AB, (), ALL), ())

    def test_textbook_rules(self):
        self.assertEqual(textbook(AB, LINE[:2], ("least", "a", "a"), "+"), (
            ("x", ("and", (("ahead", "-", "+"), ("ahead", ("least", "a", "a"), "a")))),
            ("y", ("and", (("ahead", "a", "+"), ("ahead", ("least", "a", "a"), ("greatest", "a", "b")))))))
        self.assertEqual(textbook(AB, (), "a", "b"), ())
        sharp = 0
        for frame, layout, _, _ in tried():
            for low, high in (("-", frame[0][0]), (frame[0][0], "+"), (frame[0][0], frame[0][-1]), ("-", "+")):
                ask = ("and", (("from", low), ("ahead", high)))
                rule = textbook(frame, layout, low, high)
                self.assertIs(need_rule(frame, rule), rule)
                found = faults(frame, layout, ask, rule)
                self.assertEqual(found["missed"], set())
                self.assertIsNone(rule_fault(frame, layout, ask, rule, False))
                if all(empty(frame, part) == "never" for part in layout + (("s", low, high, "h"),)):
                    self.assertEqual(found["idle"], set())
                    self.assertIsNone(rule_fault(frame, layout, ask, rule, True))
                    sharp += 1
        self.assertGreater(sharp, 5)
        # A STRETCH that can be without KEYs, within a PART.
        self.assertEqual(rule_fault(AB, (("x", "-", "+", "h"),), ("and", (("from", "a"), ("ahead", "b"))),
                                    textbook(AB, (("x", "-", "+", "h"),), "a", "b"), True)[:2], ("idle", "x"))

from random import Random
from unittest.mock import patch

from namedcuts import cases
from namedcuts.asks import asks_apart
from namedcuts.cases import parted
from namedcuts.errors import (BadFrame, BadLayout, BadName, BadNumber, BadQuestion, BadSort, BadThing, CutError, Leans,
                              Missing, Parts, TooMany)
from namedcuts.even import unlike_tick
from namedcuts.shelf import Shelf
from plain import mixed_scripts
from plain_asks import asks_to_try
from plain_rolling import rollings_to_try
from refusals import Refusals
from trials import ODD, WRONG

AB = (("a", "b"), ())
UPTO = ("a", "upto", "b")
TOLD = (("a", "b"), (UPTO,))
LAYOUT = (("p", "-", "a", "home"), ("q", "a", "+", "home"))
CUT = ("cut",)
# For each SORT a thing, one that AGREES, one that does so only where a is upto b, and one that does not.
SORTS = {
    "script": ((("move", "p", "hut"),), (("move", "p", "shed"), ("move", "p", "hut")),
               (("need", "a", "b"), ("move", "p", "hut")), ()),
    "rolling": (((1, 0, CUT),), ((1, 0, CUT), (1, 0, CUT)), None, ((2, 0, CUT),)),
    "tree": (("a", "p", "q"), ("a", "p", ("a", "r", "q")), ("a", ("b", "p", "r"), "q"), ("a", "p", None)),
    "ask": (("from", "a"), ("not", ("ahead", "a")), ("or", (("from", "a"), ("from", "b"))), ("all",)),
}
NO_LABELS = [thing for thing in WRONG if not (isinstance(thing, str) and thing in ("a", "abcdefg"))]
NO_LABELS += ["abcdefghi", "A", "a1", "a b", "a\n", ("a",), b"a"]


def pairs(sort):
    return [None if thing is None else (sort, thing) for thing in SORTS[sort]]


def filled(frame=AB):
    shelf = Shelf(frame, LAYOUT)
    for sort in SORTS:
        shelf[sort] = pairs(sort)[0]
    return shelf


def state_of(shelf):
    return (shelf.base, shelf.ground, [(name, shelf[name]) for name in shelf.labels()], len(shelf))


class Things(Refusals):
    def test_each_sort_put_read_and_forgotten(self):
        shelf = Shelf(AB, LAYOUT)
        self.assertEqual((shelf.base, shelf.ground, len(shelf), shelf.labels()), (AB, LAYOUT, 0, ()))
        for number, sort in enumerate(SORTS):
            for thing in pairs(sort):
                if thing is not None:
                    shelf[sort] = thing
                    self.assertEqual((shelf[sort], len(shelf), sort in shelf), (thing, number + 1, True))
        self.assertEqual(shelf.labels(), ("ask", "rolling", "script", "tree"))
        self.assertIsNone(shelf.forget("rolling"))
        self.assertEqual((shelf.labels(), len(shelf), "rolling" in shelf), (("ask", "script", "tree"), 3, False))
        self.refused(Missing, {"given": "rolling"}, shelf.__getitem__, "rolling")
        self.refused(Missing, {"given": "rolling"}, shelf.forget, "rolling")
        # Another SORT may come to a name that is put anew.
        shelf["ask"] = ("tree", None)
        self.assertEqual(shelf["ask"], ("tree", None))

    def test_names(self):
        shelf = Shelf(AB, LAYOUT)
        thing = ("tree", "p")
        for name in ("a", "abcdefgh", "zzzzzzzz"):
            shelf[name] = thing
            self.assertEqual(shelf[name], thing)
        for name in NO_LABELS:
            self.bad(BadName, name, shelf.__setitem__, name, None)
            self.bad(Missing, name, shelf.__getitem__, name)
            self.bad(Missing, name, shelf.forget, name)
            self.bad(Missing, name, shelf.replace, name, None)
            self.assertIs(name in shelf, False)
        self.assertEqual(len(shelf), 3)
        self.bad(Missing, "b", shelf.replace, "b", None)

    def test_what_is_no_thing(self):
        shelf = filled()
        wrong = [*WRONG, ("script", (("off", "P"),)), ("script", (("do", "p", ()),)), ("script", [("off", "p")]),
                 ("rolling", ()), ("rolling", ((5, 0, CUT),)), ("tree", ("c", "p", "q")), ("tree", 5), ("ask", "all"),
                 ("ask", ("from", "c")), ("ask", ("all",), 1), ("Ask", ("all",)), ("ask",), ["ask", ("all",)],
                 (ODD, ("all",)), ("map", ()), ("script", None), ("script", (("need", "c", "a"),))]
        for thing in wrong:
            before = state_of(shelf)
            self.bad(BadThing, thing, shelf.__setitem__, "new", thing)
            self.bad(BadThing, thing, shelf.replace, "ask", thing)
            self.assertEqual(state_of(shelf), before)

    def test_what_it_is_made_with(self):
        for thing in WRONG:
            self.assertRaises(BadFrame, Shelf, thing, None)
            if thing != ():
                self.assertRaises(BadLayout, Shelf, AB, thing)
        twice = (("p", "-", "+", "home"), ("q", "a", "b", "home"))
        self.assertRaises(BadQuestion, Shelf, AB, twice)
        Shelf((("a", "b"), (("b", "upto", "a"),)), twice)
        self.refused(BadLayout, {"part": "lo", "number": 0}, Shelf, AB, (("p", "c", "+", "home"),))
        # Gaps do no harm.
        self.assertEqual(Shelf(AB, ()).ground, ())

    def test_it_is_not_gone_through(self):
        shelf = filled()
        self.assertRaises(TypeError, iter, shelf)
        self.assertRaises(TypeError, list, shelf)
        self.assertIs("ask" in shelf, True)

    def test_same_and_not_same(self):
        self.assertTrue(filled() == filled() and not filled() != filled())
        less, other, more = filled(), filled(), filled()
        less.forget("ask")
        other["ask"] = pairs("ask")[1]
        more["asks"] = pairs("ask")[0]
        told = filled()
        told.tell(UPTO)
        moved = Shelf(AB, LAYOUT[:1])
        for thing in (less, other, more, told, Shelf(AB, LAYOUT), None, 5, AB, object()):
            self.assertFalse(filled() == thing)
            self.assertTrue(filled() != thing)
        self.assertFalse(Shelf(AB, LAYOUT) == moved)
        # How a thing came to stand there does not matter.
        replaced = filled()
        replaced.replace("ask", pairs("ask")[1])
        self.assertTrue(replaced == other)


class Replace(Refusals):
    def test_by_what_agrees_and_by_what_does_not(self):
        for sort in SORTS:
            shelf = filled()
            thing, same, leaning, other = pairs(sort)
            self.assertIsNone(shelf.replace(sort, same))
            self.assertEqual(shelf[sort], same)
            shelf.replace(sort, same)
            shelf.replace(sort, thing)
            self.assertEqual((shelf[sort], len(shelf)), (thing, 4))
            for wrong in (leaning, other):
                if wrong is not None:
                    self.assertRaises(Parts, shelf.replace, sort, wrong)
                    self.assertEqual(shelf[sort], thing)
            if leaning is not None:
                shelf.tell(UPTO)
                shelf.replace(sort, leaning)
                self.assertEqual(shelf[sort], leaning)

    def test_what_parts_tells(self):
        shelf = filled()
        told = {
            "script": parted(AB, (), LAYOUT, SORTS["script"][0], ()), "rolling": 1, "tree": ("a",), "ask": (),
        }
        for sort, given in told.items():
            self.refused(Parts, {"given": given}, shelf.replace, sort, pairs(sort)[3])
        self.refused(Parts, {"given": ("b",)}, shelf.replace, "tree", pairs("tree")[2])
        self.refused(Parts, {"given": ("b",)}, shelf.replace, "ask", pairs("ask")[2])

    def test_parts_of_mixed_things(self):
        chance = Random(81)
        scripts = [thing for thing in mixed_scripts(AB, 60, 82, book=(), most=4)]
        rollings = rollings_to_try(30, 83)
        asks = asks_to_try(AB, 60, 84)
        seen = {True: 0, False: 0}
        for sort, things, apart in (("script", scripts, lambda one, other: parted(AB, (), LAYOUT, one, other)),
                                    ("rolling", rollings, unlike_tick),
                                    ("ask", asks, lambda one, other: asks_apart(AB, one, other))):
            for _ in range(60):
                one, other = chance.choice(things), chance.choice(things)
                shelf = Shelf(AB, LAYOUT)
                shelf["x"] = (sort, one)
                given = apart(one, other)
                seen[given is None] += 1
                if given is None:
                    shelf.replace("x", (sort, other))
                else:
                    self.refused(Parts, {"given": given}, shelf.replace, "x", (sort, other))
        self.assertGreater(min(seen.values()), 10)

    def test_another_sort(self):
        for sort in SORTS:
            shelf = filled()
            for other in SORTS:
                if other != sort:
                    self.refused(BadSort, {"given": other}, shelf.replace, sort, pairs(other)[3])

    def test_too_many(self):
        shelf = filled()
        with patch.object(cases, "MOST_CASES", 1):
            many = ("script", (("need", "a", "b"),))
            self.assertRaises(TooMany, shelf.replace, "script", many)
            shelf["script"] = many
            self.assertRaises(TooMany, shelf.replace, "script", ("script", ()))


class Facts(Refusals):
    def test_tell(self):
        shelf = filled()
        self.assertIsNone(shelf.tell(UPTO))
        self.assertEqual((shelf.base, shelf.ground, len(shelf)), (TOLD, LAYOUT, 4))
        for thing in (*WRONG, ("a", "upto", "a"), ("a", "upto", "c"), ["a", "upto", "b"]):
            self.refused(BadFrame, {"part": "facts", "number": 1}, shelf.tell, thing)
        self.refused(BadFrame, {"part": "ring", "number": None}, shelf.tell, ("b", "ahead", "a"))
        self.assertEqual(shelf.base, TOLD)
        for _ in range(59):
            shelf.tell(UPTO)
        self.refused(BadFrame, {"part": "facts", "number": None}, shelf.tell, UPTO)

    def test_take_back(self):
        shelf = filled((("a", "b"), (UPTO, ("a", "ahead", "b"))))
        self.assertIsNone(shelf.take_back(0))
        self.assertEqual(shelf.base, (("a", "b"), (("a", "ahead", "b"),)))
        for thing in (*[thing for thing in WRONG if thing != 0 or isinstance(thing, bool) or thing is ODD], 1, -1, 10 ** 39):
            self.bad(BadNumber, thing, shelf.take_back, thing)
        shelf.take_back(0)
        self.refused(BadNumber, {"given": 0}, shelf.take_back, 0)
        self.assertEqual(shelf.base, AB)

    def test_a_layout_that_would_have_no_map(self):
        leaning = (("p", "-", "b", "home"), ("q", ("greatest", "a", "b"), "+", "home"), ("r", "b", "a", "home"))
        frame = (("a", "b"), (("a", "upto", "b"), UPTO))
        shelf = Shelf(frame, (("p", "-", "a", "home"), ("q", "b", "+", "home"), ("r", "b", "a", "home")))
        shelf.take_back(1)
        self.assertRaises(BadQuestion, shelf.take_back, 0)
        self.assertEqual(shelf.base, TOLD)
        self.assertEqual(Shelf(AB, leaning).base, AB)

    def test_what_leans(self):
        for sort in ("script", "tree", "ask"):
            thing, same, leaning, _ = pairs(sort)
            shelf = Shelf(TOLD, LAYOUT)
            shelf["x"] = thing
            shelf.replace("x", leaning)
            self.refused(Leans, {"given": "x"}, shelf.take_back, 0)
            self.assertEqual(shelf.base, TOLD)
            # With the FACT told twice one of them may go.
            shelf.tell(UPTO)
            shelf.take_back(0)
            self.refused(Leans, {"given": "x"}, shelf.take_back, 0)
            # What stands there now counts, against all that stood there since it was put.
            shelf.replace("x", same)
            self.refused(Leans, {"given": "x"}, shelf.take_back, 0)
            shelf["x"] = same
            shelf.take_back(0)
            self.assertEqual(shelf.base, AB)

    def test_what_is_put_or_forgotten_does_not_lean(self):
        for change in (lambda shelf: shelf.forget("x"), lambda shelf: shelf.__setitem__("x", pairs("ask")[2]),
                       lambda shelf: shelf.undo()):
            shelf = Shelf(TOLD, LAYOUT)
            shelf["x"] = pairs("ask")[0]
            shelf.replace("x", pairs("ask")[2])
            change(shelf)
            shelf.take_back(0)
            self.assertEqual(shelf.base, AB)

    def test_the_first_name_that_leans(self):
        shelf = Shelf(TOLD, LAYOUT)
        for name, sort in (("c", "ask"), ("b", "tree"), ("d", "script"), ("a", "ask")):
            shelf[name] = pairs(sort)[0]
        for name, sort in (("d", "script"), ("c", "ask"), ("b", "tree")):
            shelf.replace(name, pairs(sort)[2])
        for name in ("b", "c", "d"):
            self.refused(Leans, {"given": name}, shelf.take_back, 0)
            shelf.forget(name)
        shelf.take_back(0)

    def test_too_many_or_leans_by_what_comes_first(self):
        one, same, leaning, _ = pairs("script")
        many = ("script", (("need", "b", "a"),) * 2)
        few = ("script", (("need", "b", "a"),))
        shelf = Shelf(TOLD, LAYOUT)
        shelf["b"] = one
        shelf.replace("b", leaning)
        shelf["c"] = many
        shelf.replace("c", few)
        with patch.object(cases, "MOST_CASES", 1):
            # The elder one has one case without the FACT, the one that stands there now two.
            self.refused(TooMany, {"most": 1}, shelf.take_back, 0)
        self.refused(Leans, {"given": "b"}, shelf.take_back, 0)
        shelf["a"] = pairs("ask")[0]
        shelf.replace("a", pairs("ask")[2])
        with patch.object(cases, "MOST_CASES", 1):
            self.refused(Leans, {"given": "a"}, shelf.take_back, 0)
            shelf.forget("a")
            self.refused(TooMany, {"most": 1}, shelf.take_back, 0)

    def test_the_elder_things_first(self):
        thing, same, leaning, _ = pairs("script")
        shelf = Shelf(TOLD, LAYOUT)
        shelf["x"] = leaning
        shelf.replace("x", ("script", (("need", "a", "b"),) * 2 + thing[1]))
        shelf.replace("x", thing)
        with patch("namedcuts.shelf.parted", wraps=parted) as called:
            self.refused(Leans, {"given": "x"}, shelf.take_back, 0)
        self.assertEqual([(call.args[3], call.args[4]) for call in called.call_args_list], [(leaning[1], thing[1])])


class Undo(Refusals):
    def test_of_each(self):
        shelf = Shelf(TOLD, LAYOUT)
        thing, same, _, _ = pairs("ask")
        states = [state_of(shelf)]
        for change in (lambda: shelf.__setitem__("x", thing), lambda: shelf.replace("x", same),
                       lambda: shelf.__setitem__("x", pairs("tree")[0]), lambda: shelf.tell(("b", "upto", "a")),
                       lambda: shelf.__setitem__("y", same), lambda: shelf.take_back(0), lambda: shelf.forget("x"),
                       lambda: shelf.__setitem__("x", thing)):
            self.assertIsNone(change())
            states.append(state_of(shelf))
        for state in states[-2::-1]:
            self.assertIs(shelf.undo(), True)
            self.assertEqual(state_of(shelf), state)
        self.assertIs(shelf.undo(), False)
        self.assertEqual(state_of(shelf), states[0])

    def test_of_what_left_all_as_it_was(self):
        shelf = filled()
        for _ in range(3):
            shelf.replace("ask", shelf["ask"])
            shelf["tree"] = shelf["tree"]
        state = state_of(shelf)
        for _ in range(6):
            self.assertIs(shelf.undo(), True)
            self.assertEqual(state_of(shelf), state)
        self.assertIs(shelf.undo(), True)
        self.assertNotEqual(state_of(shelf), state)

    def test_what_is_refused_is_not_there_to_be_undone(self):
        shelf = Shelf(AB, LAYOUT)
        for call, given in ((shelf.forget, ("x",)), (shelf.tell, (5,)), (shelf.take_back, (0,)), (shelf.replace, ("x", 5)),
                            (shelf.__setitem__, ("x", 5))):
            self.assertRaises((CutError, Missing), call, *given)
        self.assertIs(shelf.undo(), False)

    def test_what_stood_there_comes_back_with_it(self):
        shelf = Shelf(TOLD, LAYOUT)
        shelf["x"] = pairs("ask")[0]
        shelf.replace("x", pairs("ask")[2])
        shelf.forget("x")
        shelf.undo()
        self.refused(Leans, {"given": "x"}, shelf.take_back, 0)

    def test_trial(self):
        for ends in (True, False):
            shelf = Shelf(TOLD, LAYOUT)
            shelf["x"] = pairs("ask")[0]
            shelf.replace("x", pairs("ask")[1])
            before = state_of(shelf)
            try:
                with shelf.trial() as one:
                    self.assertIs(one, shelf)
                    one["y"] = pairs("tree")[0]
                    one.take_back(0)
                    one.forget("x")
                    for _ in range(5):
                        one.undo()
                    one["x"] = pairs("tree")[0]
                    if not ends:
                        one.forget("none")
            except Missing:
                self.assertFalse(ends)
            self.assertEqual(state_of(shelf), before)
            self.assertEqual([shelf.undo() for _ in range(3)], [True, True, False])
            self.assertEqual((shelf.labels(), shelf.base), ((), TOLD))


class Agree(Refusals):
    def test_what_agrees_does_so_with_more_facts(self):
        for sort in SORTS:
            for one, other in ((0, 1), (1, 0), (0, 2), (2, 1)):
                things = pairs(sort)
                if things[one] is None or things[other] is None:
                    continue
                shelf = Shelf(TOLD, LAYOUT)
                shelf["x"] = things[one]
                shelf.replace("x", things[other])
                shelf.tell(("a", "ahead", "b"))
                shelf["y"] = things[one]
                shelf.replace("y", things[other])

import unittest

from namedcuts.errors import BadBook, BadFrame, BadLayout, BadScript, BadWorld
from namedcuts.scripts import deeds_in, need_book, run_in
from plain import BOOK, deeds, first_layouts, mixed_scripts, outcome, right_layouts
from trials import WRONG, few_frames, worlds_of

AB = (("a", "b"), ())
WORLD = (3, 7)
ONE = (("p", "-", "+", "home"),)
TWO = (("p", "-", "a", "home"), ("q", "a", "+", "hut"))


def full(many):
    """A layout of so many parts, of which only the first one has keys."""
    return (("a", "-", "+", "h"),) + tuple((letter, "+", "+", "h") for letter in "bcdefghijklmnop"[:many - 1])


class Runs(unittest.TestCase):
    def stops(self, layout, script, many=0, book=(), frame=AB, world=WORLD):
        """The script stops behind so many deeds, and what is there then is what they made."""
        word, number, left = run_in(frame, book, layout, script, world)
        self.assertEqual((word, number), ("stopped", many), script)
        self.assertEqual(left, outcome(frame, book, layout, script, world)[2])
        self.assertEqual(len(deeds_in(frame, book, layout, script, world)), many)
        if many == 0:
            self.assertEqual(left, run_in(frame, book, layout, (), world)[2])

    def makes(self, layout, script, behind, world=WORLD, book=(), frame=AB):
        word, number, left = run_in(frame, book, layout, script, world)
        self.assertEqual((word, left), ("done", behind), script)
        self.assertEqual(deeds_in(frame, book, layout, script, world), deeds(frame, book, layout, script, world))


class Split(Runs):
    def test_done(self):
        self.makes(ONE, (("split", "p", "a", "p", "q"),), (("p", "-", 3, "home"), ("q", 3, "+", "home")))
        self.makes(ONE, (("split", "p", "a", "q", "p"),), (("p", 3, "+", "home"), ("q", "-", 3, "home")))
        self.makes(ONE, (("split", "p", "b", "x", "y"),), (("x", "-", 7, "home"), ("y", 7, "+", "home")))
        self.makes(TWO, (("split", "q", "b", "y", "x"),), (("p", "-", 3, "home"), ("x", 7, "+", "hut"), ("y", 3, 7, "hut")))
        for term, bound in (("-", "-"), ("+", "+"), (("least", "b", "a"), 3), (("greatest", ("lo", "p"), "b"), 7)):
            self.makes(ONE, (("split", "p", term, "p", "q"),), (("p", "-", bound, "home"), ("q", bound, "+", "home")))

    def test_outside_of_the_bounds(self):
        layout = (("p", "a", "b", "home"),)
        for term, bound in (("-", 3), ("+", 7), ("a", 3), ("b", 7), (("lo", "p"), 3), (("hi", "p"), 7)):
            self.makes(layout, (("split", "p", term, "p", "q"),), (("p", 3, bound, "home"), ("q", bound, 7, "home")))
        # Bounds the wrong way about: the greatest of LO and what is at most HI is LO.
        for term in ("-", "a", "b", "+"):
            self.makes((("p", "b", "a", "home"),), (("split", "p", term, "p", "q"),),
                       (("p", 7, 7, "home"), ("q", 7, 3, "home")))

    def test_not_done(self):
        for deed in (("split", "x", "a", "x", "y"), ("split", "p", "a", "x", "x"), ("split", "p", "a", "p", "p"),
                     ("split", "p", "a", "q", "x"), ("split", "p", "a", "x", "q"), ("split", "p", "a", "p", "q"),
                     ("split", "p", ("lo", "x"), "p", "y"), ("split", "p", ("least", "a", ("hi", "y")), "p", "y")):
            self.stops(TWO, (deed,))
            self.stops(TWO, (("move", "p", "hut"), deed, ("off", "p")), 1)

    def test_no_17th_part(self):
        for left, right in (("a", "z"), ("z", "a"), ("y", "z")):
            self.stops(full(16), (("split", "a", "b", left, right),))
            word, number, layout = run_in(AB, (), full(15), (("split", "a", "b", left, right),), WORLD)
            self.assertEqual((word, number, len(layout)), ("done", 1, 16))
        self.stops(full(15), (("split", "a", "b", "a", "y"), ("split", "a", "b", "a", "z")), 1)


class Join(Runs):
    def test_done(self):
        for part in ("p", "q", "x"):
            self.makes(TWO, (("join", "p", "q", part),), ((part, "-", "+", "home"),))
        layout = (("p", "b", "+", "home"), ("q", "a", "b", "hut"))
        self.makes(layout, (("join", "q", "p", "p"),), (("p", 3, "+", "hut"),))

    def test_bounds_the_wrong_way_about(self):
        layout = (("p", "b", "a", "home"), ("q", "a", "b", "hut"))
        self.makes(layout, (("join", "p", "q", "p"),), (("p", 3, 7, "home"),))
        layout = (("p", "a", "b", "home"), ("q", "b", "a", "hut"))
        self.makes(layout, (("join", "p", "q", "q"),), (("q", 3, 7, "home"),))
        layout = (("p", "+", "a", "home"), ("q", "a", "-", "hut"))
        self.makes(layout, (("join", "p", "q", "q"),), (("q", 3, 3, "home"),))

    def test_not_done(self):
        three = TWO + (("r", "b", "a", "h"),)
        for deed in (("join", "x", "q", "x"), ("join", "p", "x", "p"), ("join", "p", "p", "p"), ("join", "p", "p", "x"),
                     ("join", "p", "q", "r"), ("join", "q", "p", "q"), ("join", "q", "r", "q"), ("join", "p", "r", "p")):
            self.stops(three, (deed,))
            self.stops(three, (("call", "r", "y"), ("call", "y", "r"), deed), 2)

    def test_meet_by_values(self):
        layout = (("p", "-", "a", "home"), ("q", "b", "+", "hut"))
        for world, holds in (((3, 3), True), ((3, 4), False), ((4, 3), False)):
            if holds:
                self.makes(layout, (("join", "p", "q", "p"),), (("p", "-", "+", "home"),), world)
            else:
                self.stops(layout, (("join", "p", "q", "p"),), world=world)
                self.stops(layout, (("shift", "p", "q", "a"),), world=world)

    def test_two_that_meet_both_ways(self):
        layout = (("p", "a", "a", "h"), ("q", "a", "a", "h"))
        self.makes(layout, (("join", "q", "p", "z"),), (("z", 3, 3, "h"),))


class Shift(Runs):
    def test_done(self):
        for term, bound in (("b", 7), ("-", "-"), ("+", "+"), (("hi", "p"), 3), (("hi", "q"), "+"), (("least", "b", "a"), 3)):
            self.makes(TWO, (("shift", "p", "q", term),), (("p", "-", bound, "home"), ("q", bound, "+", "hut")))
        layout = (("p", "b", "b", "home"), ("q", "a", "b", "hut"))
        for term, bound in (("-", 3), ("+", 7), ("a", 3)):
            self.makes(layout, (("shift", "q", "p", term),), (("p", bound, 7, "home"), ("q", 3, bound, "hut")))

    def test_bounds_the_wrong_way_about(self):
        layout = (("p", "b", "a", "home"), ("q", "a", "-", "hut"))
        self.makes(layout, (("shift", "p", "q", "b"),), (("p", 3, 3, "home"), ("q", 3, 3, "hut")))
        layout = (("p", "b", "a", "home"), ("q", "a", "b", "hut"))
        self.makes(layout, (("shift", "p", "q", "b"),), (("p", 3, 7, "home"), ("q", 7, 7, "hut")))

    def test_not_done(self):
        for deed in (("shift", "x", "q", "a"), ("shift", "p", "x", "a"), ("shift", "p", "p", "a"), ("shift", "q", "p", "a"),
                     ("shift", "p", "q", ("lo", "x"))):
            self.stops(TWO, (deed,))


class Others(Runs):
    def test_move(self):
        self.makes(TWO, (("move", "p", "hut"),), (("p", "-", 3, "hut"), ("q", 3, "+", "hut")))
        self.makes(TWO, (("move", "p", "home"),), (("p", "-", 3, "home"), ("q", 3, "+", "hut")))
        self.stops(TWO, (("move", "x", "home"),))

    def test_call(self):
        self.makes(TWO, (("call", "p", "x"),), (("q", 3, "+", "hut"), ("x", "-", 3, "home")))
        for deed in (("call", "x", "y"), ("call", "p", "q"), ("call", "p", "p"), ("call", "x", "x")):
            self.stops(TWO, (deed,))

    def test_off(self):
        self.makes(TWO, (("off", "p"),), (("q", 3, "+", "hut"),))
        self.makes(TWO, (("off", "p"), ("off", "q")), ())
        self.stops(TWO, (("off", "x"),))
        self.stops(TWO, (("off", "p"), ("off", "p")), 1)

    def test_on(self):
        self.makes(TWO, (("on", "x", "b", "a", "h"),), (("p", "-", 3, "home"), ("q", 3, "+", "hut"), ("x", 7, 3, "h")))
        self.makes((), (("on", "p", ("least", "a", "b"), ("greatest", "b", "-"), "h"),), (("p", 3, 7, "h"),))
        self.makes(TWO, (("on", "x", ("hi", "p"), ("hi", "q"), "h"), ("off", "p"), ("off", "q")), (("x", 3, "+", "h"),))
        for deed in (("on", "p", "a", "b", "h"), ("on", "x", ("lo", "x"), "b", "h"), ("on", "x", "a", ("hi", "y"), "h")):
            self.stops(TWO, (deed,))
        self.stops(full(16), (("on", "z", "a", "b", "h"),))
        self.makes(full(15)[1:], (("on", "a", "-", "+", "h"),), run_in(AB, (), full(15), (), WORLD)[2])

    def test_need(self):
        for one, other in (("a", "b"), ("a", "a"), ("-", "+"), ("-", "a"), ("a", "+"), (("lo", "p"), ("hi", "p"))):
            self.assertEqual(run_in(AB, (), TWO, (("need", one, other),), WORLD)[:2], ("done", 1))
        for one, other in (("b", "a"), ("+", "-"), ("a", "-"), ("+", "a"), (("hi", "p"), ("lo", "p")), (("lo", "x"), "+"),
                           ("-", ("hi", "x")), ("-", ("greatest", "+", ("hi", "x")))):
            self.stops(TWO, (("need", one, other),))
        self.assertEqual(run_in(AB, (), TWO, (("need", "a", "b"), ("need", "b", "a")), (5, 5))[:2], ("done", 2))

    def test_if(self):
        script = (("if", "a", "b", (("off", "p"),), (("off", "q"), ("move", "p", "hut"))),)
        for world in ((3, 7), (5, 5)):
            self.makes(TWO, script, (("q", world[0], "+", "hut"),), world)
        self.makes(TWO, script, (("p", "-", 7, "hut"),), (7, 3))
        self.assertEqual([run_in(AB, (), TWO, script, world)[1] for world in ((3, 7), (7, 3))], [1, 2])
        # What stands in the THEN and the ELSE is not asked for parts ahead.
        self.makes(TWO, (("if", "a", "b", (), (("need", ("lo", "x"), "a"),)),), run_in(AB, (), TWO, (), WORLD)[2])
        self.stops(TWO, (("if", ("lo", "x"), "b", (), ()),))
        self.stops(TWO, (("if", "a", ("hi", "x"), (), ()),))
        self.stops(TWO, (("if", "a", "b", (("off", "p"), ("off", "x"), ("off", "q")), ()), ("off", "q")), 1)

    def test_bounds_as_they_are_then(self):
        script = (("split", "p", "a", "p", "q"), ("need", ("hi", "p"), "a"), ("shift", "p", "q", "b"),
                  ("need", "b", ("hi", "p")), ("need", ("lo", "q"), ("hi", "p")), ("call", "q", "r"), ("need", "a", ("lo", "r")))
        self.makes(ONE, script, (("p", "-", 7, "home"), ("r", 7, "+", "home")))
        self.stops(ONE, script + (("need", ("lo", "q"), "+"),), 7)

    def test_nothing_to_do(self):
        self.assertEqual(run_in(AB, (), TWO, (), WORLD), ("done", 0, (("p", "-", 3, "home"), ("q", 3, "+", "hut"))))
        self.assertEqual(deeds_in(AB, (), TWO, (), WORLD), ())


class Books(Runs):
    def test_things_are_put_in_at_once(self):
        book = (("swap", (("part", "p"), ("part", "q"), ("bound", "t"), ("bound", "u")),
                 (("split", "p", "t", "p", "z"), ("need", "u", ("hi", "p")), ("call", "q", "y"))),)
        need_book(AB, book)
        script = (("do", "swap", ("q", "p", "b", ("least", "a", ("lo", "q")))),)
        self.assertEqual(deeds_in(AB, book, TWO, script, WORLD), (
            ("split", "q", "b", "q", "z"), ("need", ("least", "a", ("lo", "q")), ("hi", "q")), ("call", "p", "y")))
        self.makes(TWO, script, (("q", 3, 7, "hut"), ("y", "-", 3, "home"), ("z", 7, "+", "hut")), book=book)

    def test_bounds_that_are_exchanged(self):
        book = (("order", (("bound", "t"), ("bound", "u")), (("need", "t", "u"),)),
                ("turn", (("bound", "u"), ("bound", "t")), (("do", "order", ("t", "u")),)))
        self.assertEqual(deeds_in(AB, book, ONE, (("do", "turn", ("b", "a")),), WORLD), (("need", "a", "b"),))
        self.stops(ONE, (("do", "turn", ("a", "b")),), book=book)

    def test_in_any_order_of_params(self):
        for params, args in (((("part", "x"), ("bound", "t"), ("part", "n")), ("p", "a", "q")),
                             ((("bound", "t"), ("part", "n"), ("part", "x")), ("a", "q", "p")),
                             ((("part", "n"), ("part", "x"), ("bound", "t")), ("q", "p", "a"))):
            book = (("cut", params, (("split", "x", "t", "x", "n"),)),)
            self.makes(ONE, (("do", "cut", args),), (("p", "-", 3, "home"), ("q", 3, "+", "home")), book=book)

    def test_a_word_that_is_a_name_as_well(self):
        # The part p of the BODY is not the PART p; as a NAME, and as a HOUSE, the word stays what it is.
        book = (("go", (("part", "p"), ("part", "a"), ("bound", "q")), (
            ("off", "p"), ("move", "a", "p"), ("need", "a", ("greatest", "q", ("hi", "a"))), ("off", "q"))),)
        layout = TWO + (("x", "-", "-", "h"),)
        self.assertEqual(deeds_in(AB, book, layout, (("do", "go", ("x", "p", "b")),), WORLD), (
            ("off", "x"), ("move", "p", "p"), ("need", "a", ("greatest", "b", ("hi", "p"))), ("off", "q")))
        # A "bound" that has the word of a PART does not stand for it in the bounds of this.
        book = (("go", (("bound", "q"),), (("need", ("lo", "q"), "q"),)),)
        self.assertEqual(deeds_in(AB, book, TWO, (("do", "go", ("b",)),), WORLD), (("need", ("lo", "q"), "b"),))

    def test_in_each_deed(self):
        params = (("part", "p"), ("part", "q"), ("part", "new"), ("bound", "u"))
        body = (("split", "p", "a", "p", "new"), ("shift", "p", "new", "u"), ("join", "p", "new", "p"), ("move", "p", "p"),
                ("split", "p", "u", "new", "p"), ("join", "new", "p", "new"), ("call", "new", "p"), ("off", "q"),
                ("on", "q", "a", ("greatest", "u", ("lo", "p")), "q"), ("need", "a", ("hi", "q")),
                ("if", ("lo", "p"), "u", (("on", "new", "u", "a", "u"),), ()), ("if", "u", ("lo", "p"), (), (("off", "p"),)))
        given = {"p": "x", "q": "y", "new": "z", "u": ("least", "b", ("hi", "x"))}
        layout = (("x", "-", "b", "home"), ("y", "b", "+", "hut"))
        book = (("all", params, body),)
        script = (("do", "all", tuple(given[word] for _, word in params)),)
        u = given["u"]
        self.assertEqual(deeds_in(AB, book, layout, script, WORLD), (
            ("split", "x", "a", "x", "z"), ("shift", "x", "z", u), ("join", "x", "z", "x"), ("move", "x", "p"),
            ("split", "x", u, "z", "x"), ("join", "z", "x", "z"), ("call", "z", "x"), ("off", "y"),
            ("on", "y", "a", ("greatest", u, ("lo", "x")), "q"), ("need", "a", ("hi", "y")), ("on", "z", u, "a", "u"),
            ("off", "x")))
        self.makes(layout, script, (("y", 3, 7, "q"), ("z", 7, 3, "u")), book=book)

    def test_args_go_on_into_pieces(self):
        book = (("y", (("part", "x"), ("bound", "t")), (("split", "x", "t", "x", "z"), ("need", ("lo", "x"), "t"))),
                ("w", (("bound", "x"), ("part", "t")), (("if", "x", "b", (("do", "y", ("t", ("greatest", "x", ("lo", "t")))),),
                                                         ()),)))
        script = (("do", "w", (("least", "a", ("hi", "q")), "q")),)
        term = ("greatest", ("least", "a", ("hi", "q")), ("lo", "q"))
        self.assertEqual(deeds_in(AB, book, TWO, script, WORLD), (("split", "q", term, "q", "z"), ("need", ("lo", "q"), term)))

    def test_bounds_of_parts_in_args_are_those_of_then(self):
        book = (("y", (("bound", "t"),), (("split", "p", "a", "p", "r"), ("need", "t", "a"), ("off", "p"), ("need", "t", "+"))),)
        script = (("do", "y", (("hi", "p"),)),)
        self.stops(ONE, script, 3, book)
        # The PART of an ARG need not be there where the PIECE is done, nor where no DEED asks for it.
        book = (("y", (("bound", "t"), ("bound", "u")), (("split", "p", "a", "p", "r"), ("need", "t", "a"))),)
        self.makes(ONE, (("do", "y", (("hi", "p"), ("lo", "zz"))),), (("p", "-", 3, "home"), ("r", 3, "+", "home")), book=book)
        self.stops(ONE, (("do", "y", (("lo", "zz"), "a")),), 1, book)

    def test_a_stop_within_stops_all(self):
        book = (("y", (), (("off", "x"),)), ("z", (), (("move", "p", "h"), ("do", "y", ()), ("off", "p"))))
        self.stops(ONE, (("do", "z", ()), ("off", "p")), 1, book)
        self.makes(ONE, (("if", "a", "b", (), (("do", "z", ()),)),), ONE, book=book)

    def test_terms_far_beyond_their_bounds(self):
        wide = ("least",) + (("greatest",) + ("t",) * 30,) * 10
        book = (("y", (("bound", "t"),), (("split", "p", wide, "p", "q"),)),)
        for word in "xwv":
            book += ((word, (("bound", "t"),), (("do", book[-1][0], (wide,)),)),)
        layout = (("p", "-", "+", "home"), ("z", "b", "b", "h"))
        script = (("do", "v", (("greatest", "a", ("lo", "z")),)),)
        self.assertEqual(run_in(AB, book, layout, script, WORLD)[1:], (1, (
            ("p", "-", 7, "home"), ("q", 7, "+", "home"), ("z", 7, 7, "h"))))
        self.assertEqual(run_in(AB, book, ONE, script, WORLD)[:2], ("stopped", 0))


class Mixed(Runs):
    def test_against_what_is_done_plainly(self):
        words = set()
        for at, frame in enumerate(few_frames()):
            worlds = worlds_of(frame)
            for layout in first_layouts(frame) + right_layouts(frame, 2, at):
                for script in mixed_scripts(frame, 40, at + len(layout)):
                    for world in worlds[::1 + len(worlds) // 8]:
                        told = run_in(frame, BOOK, layout, script, world)
                        words.add((told[0], told[1] > 2))
                        self.assertEqual(told, outcome(frame, BOOK, layout, script, world))
                        self.assertEqual(deeds_in(frame, BOOK, layout, script, world),
                                         deeds(frame, BOOK, layout, script, world))
        self.assertEqual(len(words), 4)


class Errors(unittest.TestCase):
    def test_their_order(self):
        for call in (run_in, deeds_in):
            self.assertRaises(BadFrame, call, None, None, None, None, None)
            self.assertRaises(BadBook, call, AB, None, None, None, None)
            self.assertRaises(BadLayout, call, AB, (), None, None, None)
            self.assertRaises(BadScript, call, AB, (), (), None, None)
            self.assertRaises(BadWorld, call, AB, (), (), (), None)

    def test_of_anything(self):
        for call in (run_in, deeds_in):
            for thing in WRONG:
                empty = isinstance(thing, tuple) and thing == ()
                with self.assertRaises(BadWorld) as caught:
                    call(AB, (), ONE, (), thing)
                self.assertIs(caught.exception.given, thing)
                for error, given in ((BadBook, (AB, thing, ONE, (), WORLD)), (BadLayout, (AB, (), thing, (), WORLD)),
                                     (BadScript, (AB, (), ONE, thing, WORLD))):
                    if not empty:
                        self.assertRaises(error, call, *given)
        frame = (("a", "b"), (("a", "upto", "b"),))
        self.assertRaises(BadWorld, run_in, frame, (), ONE, (), (2, 1))
        self.assertEqual(run_in(frame, (), ONE, (), (2, 2))[0], "done")

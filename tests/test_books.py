import unittest

from namedcuts.errors import BadBook, BadFrame, BadScript
from namedcuts.scripts import need_book, need_script
from plain import BOOK, mixed_scripts
from trials import ODD, WRONG, few_frames, nested

ABC = (("a", "b", "c"), ())
OFF = ("off", "p")
DEEDS = (
    ("split", "p", "a", "q", "r"), ("split", "p", ("least", ("lo", "p"), "-", "b"), "p", "p"),
    ("join", "p", "q", "r"), ("join", "p", "p", "p"), ("shift", "p", "q", ("hi", "q")), ("move", "p", "home"),
    ("call", "p", "q"), ("off", "p"), ("on", "p", ("hi", "p"), ("greatest", ("lo", "zzzzzz"), "+"), "hut"),
    ("need", "-", ("least", "c")), ("need", ("lo", "p"), ("lo", "p")), ("if", "a", ("hi", "p"), (), ()),
    ("if", "a", "b", (OFF,), (("if", "b", "a", (), (OFF, OFF)),)), ("split", "lo", ("lo", "hi"), "hi", "least"),
)
# For each word of a deed what stands behind it: a name of a part (p), a house (h), a term (t).
SHAPES = {"split": "ptpp", "join": "ppp", "shift": "ppt", "move": "ph", "call": "pp", "off": "p", "on": "ptth",
          "need": "tt"}
GOOD = {"p": "p", "h": "home", "t": "a"}
NO_NAMES = (None, True, 0, 1, "", "A", "abcdefg", "a1", "a b", "-", b"p", [], ["p"], ("p",), (), {}, {"p": 1}, ODD)
NO_TERMS = (None, True, 0, 1, "", "d", "ab", "lo", b"a", [], ["a"], (), ("a",), ("least",), ("lo",), ("lo", "P"),
            ("lo", "p", "p"), ("lo", ""), ("lo", ("lo", "p")), ("hi", 1), ("lo", None), ("li", "p"), ["lo", "p"],
            ("least", ["a"]), ("greatest", ("hi", "abcdefg")), ("hi", ODD), (ODD, "p"), ODD, {}, nested(30))


def ifs(deep, inner=()):
    for at in range(deep):
        inner = (("if", "a", "b", inner, ()) if at % 2 else ("if", "a", "b", (), inner),)
    return inner


class Forms(unittest.TestCase):
    def bad(self, place, thing, book=(), frame=ABC):
        with self.assertRaises(BadScript) as caught:
            need_script(frame, book, thing)
        self.assertEqual(caught.exception.place, place, thing)

    def bad_book(self, place, thing, frame=ABC):
        with self.assertRaises(BadBook) as caught:
            need_book(frame, thing)
        self.assertEqual(caught.exception.place, place, thing)
        # A BOOK that is none is refused wherever a SCRIPT of it is passed.
        self.assertRaises(BadBook, need_script, frame, thing, None)


class Scripts(Forms):
    def test_scripts_are_told_as_they_are(self):
        for deed in DEEDS:
            for script in ((deed,), (deed, OFF), (OFF, deed)):
                self.assertIs(need_script(ABC, (), script), script)
        for many in (0, 1, 29, 30):
            script = (OFF,) * many
            self.assertIs(need_script(ABC, (), script), script)
        for at, frame in enumerate(few_frames()):
            for script in mixed_scripts(frame, 20, at):
                self.assertIs(need_script(frame, BOOK if "t" not in frame[0] else (), script), script)

    def test_no_tuple_of_at_most_30(self):
        for thing in (None, True, 0, "", "off", b"", [], [OFF], {}, set(), ODD, object(), (OFF,) * 31):
            self.bad((), thing)
            self.bad((0, 0), (("if", "a", "b", thing, None),))
            self.bad((1, 1), (OFF, ("if", "a", "b", (OFF,), thing)))
        # The number of things comes ahead of what they are.
        self.bad((), (None,) * 31)
        self.bad((0,), (None,) * 30)

    def test_no_deeds(self):
        for thing in WRONG + ("off", ("off",), ("off", "p", "q"), ["off", "p"], ("Off", "p"), ("of", "p"), ("do", "cut", ()),
                              ("do",), ("if", "a", "b", ()), ("if", "a", "b", (), (), ()), (("off", "p"),), ("if",),
                              ("need", "a"), ("need", "a", "b", "c"), ("done",), (None, "p"), (["off"], "p"), (ODD, "p")):
            self.bad((0,), (thing,))
            self.bad((2,), (OFF, OFF, thing, None))
            self.bad((1, 0, 1), (OFF, ("if", "a", "b", (OFF, thing), (None,)),))

    def test_each_thing_of_a_deed(self):
        for word, shape in SHAPES.items():
            right = (word, *[GOOD[kind] for kind in shape])
            self.assertEqual(need_script(ABC, (), (right,)), (right,))
            self.bad((0,), (right + ("p",),))
            self.bad((0,), (right[:-1],))
            self.bad((0,), (list(right),))
            for at, kind in enumerate(shape):
                for thing in NO_TERMS if kind == "t" else NO_NAMES:
                    self.bad((1,), (OFF, (*right[:at + 1], thing, *right[at + 2:])))

    def test_terms_of_if(self):
        for thing in NO_TERMS:
            self.bad((0,), (("if", thing, "a", (), ()),))
            self.bad((0,), (("if", "a", thing, (), ()),))
            # What is wrong in THEN and ELSE does not matter then.
            self.bad((0,), (("if", thing, "a", None, (None,)),))

    def test_places_within(self):
        self.bad((3, 1, 0), (OFF, OFF, OFF, ("if", "a", "b", (OFF,), (None,))))
        self.bad((0, 0, 2), (("if", "a", "b", (OFF, OFF, None), (None,)),))
        self.bad((0, 1), (("if", "a", "b", (OFF, OFF), [OFF]),))
        self.bad((0, 0), (("if", "a", "b", None, [OFF]), None))
        self.bad((0, 1, 1, 0, 0), (("if", "a", "b", (OFF,), (OFF, ("if", "b", "a", (("off",),), ()))),))
        self.bad((0, 1, 1, 0), (("if", "a", "b", (OFF,), (OFF, ("if", "b", "a", (OFF,) * 31, ()))),))
        self.bad((1,), (("if", "a", "b", (), ()), None, ("if", "a", "b", None, ())))
        self.bad((0, 0, 0, 0, 0, 0, 0), (("if", "a", "b", (("if", "a", "b", (("if", "a", "b", (None,), ()),), ()),), ()),))

    def test_bounds_of_terms(self):
        wide = ("least",) + (("greatest",) + (("lo", "p"),) * 30,) * 10
        deep = ("lo", "p")
        for _ in range(19):
            deep = ("least", deep)
        for term in (wide, deep, ("least",) + (("hi", "q"),) * 40):
            self.assertEqual(need_script(ABC, (), (("need", term, "a"),)), (("need", term, "a"),))
        for term in (("least", wide, "-"), ("greatest", deep), ("least",) + (("hi", "q"),) * 41):
            self.bad((0,), (("need", term, "a"),))

    def test_how_deep(self):
        for deep in (1, 5, 6):
            self.assertEqual(need_script(ABC, (), ifs(deep)), ifs(deep))
        self.bad((), ifs(7))
        self.bad((), ifs(7, (OFF,)))
        self.bad((), ifs(14))
        self.bad((), (OFF, ifs(1)[0], ifs(7)[0]))
        self.assertEqual(need_script(ABC, (), ifs(6, (OFF,) * 30)), ifs(6, (OFF,) * 30))

    def test_too_deep_comes_behind_other_faults(self):
        self.bad((1,), (ifs(7)[0], None))
        self.bad((0, 0, 0, 1) * 4 + (0,), ifs(8, (None,)))

    def test_how_many(self):
        some = ("if", "a", "b", (OFF,) * 20, (OFF,) * 29)
        self.assertEqual(need_script(ABC, (), (some,) * 4), (some,) * 4)
        self.bad((), (some,) * 4 + (OFF,))
        less = ("if", "a", "b", (OFF,) * 20, (OFF,) * 28)
        self.assertEqual(need_script(ABC, (), (some,) * 3 + (less, OFF)), (some,) * 3 + (less, OFF))
        self.bad((), (some,) * 3 + (less, OFF, OFF))
        self.bad((30 - 1,), (some,) * 29 + (None,))
        self.bad((4, 1), (some,) * 4 + (("if", "a", "b", (), None),))

    def test_frame_and_book_come_first(self):
        self.assertRaises(BadFrame, need_script, None, None, None)
        self.assertRaises(BadFrame, need_script, ((), ()), None, None)
        self.assertRaises(BadBook, need_script, ABC, None, None)
        self.assertRaises(BadFrame, need_book, None, None)


class Books(Forms):
    def test_books_are_told_as_they_are(self):
        words = "abcdefghijkl"
        for many in (0, 1, 8):
            book = tuple((word, (), ()) for word in words[:many])
            self.assertIs(need_book(ABC, book), book)
        for book in (BOOK, (("abcdef", (("part", "a"), ("bound", "x"), ("part", "c"), ("bound", "zzzzzz")), (OFF,)),),
                     (("a", (("part", "b"),), (("need", "b", ("lo", "b")),)),), (("p", (), DEEDS),)):
            self.assertIs(need_book(ABC, book), book)

    def test_no_tuple_of_at_most_8(self):
        nine = tuple((word, (), ()) for word in "abcdefghi")
        for thing in (None, True, 1, "", [], [("a", (), ())], {}, set(), ODD, nine, (None,) * 9, object()):
            self.bad_book((), thing)

    def test_no_pieces(self):
        for thing in WRONG + (("a", ()), ("a", (), (), ()), ["a", (), ()], ("a", (), None), ("a", (), []), ("a", (), "")):
            self.bad_book((0,), (thing,))
            self.bad_book((1,), (("z", (), ()), thing, None))
        for thing in NO_NAMES:
            self.bad_book((1,), (("z", (), ()), (thing, (), ())))
        self.bad_book((1,), (("z", (), ()), ("z", (), ())))
        self.bad_book((2,), (("z", (), ()), ("y", (), ()), ("z", (), (None,))))

    def test_params(self):
        def book(*params):
            return (("q", (), ()), ("z", params, ()))

        for params in (None, [], [("part", "x")], "", {}, ODD, 1, (("part", "x"), None)):
            self.bad_book((1,), (("q", (), ()), ("z", params, ())))
        for thing in WRONG + ("part", ("part",), ("part", "x", "y"), ["part", "x"], ("Part", "x"), ("bond", "x"), (ODD, "x"),
                              ("lo", "x"), (None, "x"), (["part"], "x")):
            self.bad_book((1,), book(thing))
            self.bad_book((1,), book(("part", "y"), thing))
        for thing in NO_NAMES:
            self.bad_book((1,), book(("part", thing)))
            self.bad_book((1,), book(("bound", thing)))
        four = (("part", "x"), ("bound", "y"), ("part", "z"), ("bound", "w"))
        self.assertEqual(need_book(ABC, book(*four)), book(*four))
        self.bad_book((1,), book(*four, ("part", "v")))
        for sorts in (("part", "part"), ("part", "bound"), ("bound", "part"), ("bound", "bound")):
            self.bad_book((1,), book((sorts[0], "x"), ("part", "u"), (sorts[1], "x")))
        for name in ABC[0]:
            self.bad_book((1,), book(("bound", name)))
            self.assertEqual(need_book(ABC, book(("part", name))), book(("part", name)))
        self.assertEqual(need_book((("b",), ()), book(("bound", "a"))), book(("bound", "a")))

    def test_places_of_bodies(self):
        self.bad_book((0,), (("z", (), (OFF,) * 31),))
        self.bad_book((0, 2), (("z", (), (OFF, OFF, None)), None))
        self.bad_book((1, 1, 0, 1), (("y", (), (OFF,)), ("z", (), (OFF, ("if", "a", "b", (OFF, ("off",)), ())))))
        self.bad_book((0,), (("z", (), ifs(7)), ("z", (), ())))
        self.bad_book((0, 1), (("z", (), (ifs(7)[0], None)), ("z", (), ())))
        self.bad_book((1,), (("y", (), (OFF,)), None, ("z", (), (None,))))

    def test_words_in_bodies(self):
        params = (("bound", "t"), ("part", "x"))
        self.assertEqual(need_book(ABC, (("z", params, (("need", "t", ("least", "t", ("hi", "x"))),)),))[0][0], "z")
        self.bad_book((0, 0), (("z", params, (("need", "x", "a"),)),))
        self.bad_book((0, 1), (("z", (), (OFF, ("need", "t", "a"))),))
        # A word of one PIECE is none of the next one.
        self.bad_book((1, 0), (("y", params, (("need", "t", "a"),)), ("z", (), (("need", "t", "a"),))))
        self.bad((0,), (("need", "t", "a"),), (("z", params, ()),))

    def test_only_pieces_ahead_are_done(self):
        self.assertEqual(need_book(ABC, (("y", (), (OFF,)), ("z", (), (("do", "y", ()),))))[1][0], "z")
        self.bad_book((0, 0), (("z", (), (("do", "z", ()),)),))
        self.bad_book((0, 1), (("y", (), (OFF, ("do", "z", ()))), ("z", (), ())))
        self.bad_book((0, 0, 1, 0), (("y", (), (("if", "a", "b", (), (("do", "y", ()),)),)), ("z", (), ())))


class Done(Forms):
    def test_args(self):
        params = (("bound", "t"), ("part", "x"), ("bound", "u"))
        book = (("z", params, ()), ("none", (), ()))
        for args in (("a", "p", "b"), (("lo", "x"), "a", "+"), (("least", ("hi", "q"), "-"), "zzzzzz", "c")):
            script = (OFF, ("do", "z", args), ("do", "none", ()))
            self.assertIs(need_script(ABC, book, script), script)
        for args in ((), ("a", "p"), ("a", "p", "b", "b"), ["a", "p", "b"], None, "apb", ODD, {}):
            self.bad((1,), (OFF, ("do", "z", args)), book)
        for thing in NO_TERMS:
            self.bad((1,), (OFF, ("do", "z", (thing, "p", "b"))), book)
            self.bad((1,), (OFF, ("do", "z", ("a", "p", thing))), book)
        for thing in NO_NAMES + (("lo", "p"), ("least", "a")):
            self.bad((1,), (OFF, ("do", "z", ("a", thing, "b"))), book)
        # A string that is no NAME is no term for a "bound".
        self.bad((0,), (("do", "z", ("p", "p", "b")),), book)
        self.bad((0,), (("do", "none", ("a",)),), book)
        for thing in NO_NAMES + ("y", "zz"):
            self.bad((0,), (("do", thing, ("a", "p", "b")),), book)
        for deed in (("do", "z"), ("do", "z", ("a", "p", "b"), ()), ["do", "z", ("a", "p", "b")], ("Do", "z", ("a", "p", "b")),
                     ("call", "z", ("a", "p", "b")), ("need", "z", ("a", "p", "b")), (None, "none", ()), ("none", "none", ())):
            self.bad((0,), (deed,), book)

    def test_args_in_a_body(self):
        book = (("y", (("bound", "t"), ("part", "x")), ()),
                ("z", (("bound", "u"), ("part", "w")), (("do", "y", (("least", "u", ("lo", "w")), "w")),)))
        self.assertIs(need_book(ABC, book), book)
        wrong = book[:1] + (("z", (("bound", "u"), ("part", "w")), (("do", "y", ("w", "w")),)),)
        self.bad_book((1, 0), wrong)

    def test_how_deep(self):
        book = (("one", (), (OFF,)), ("three", (), ifs(2, (("do", "one", ()),))), ("six", (), ifs(3, (("do", "one", ()), OFF,
                ("if", "a", "b", (("do", "one", ()),), ()), ("if", "a", "b", (), ifs(1))))))
        self.assertIs(need_book(ABC, book), book)
        for script in (ifs(2, (("do", "three", ()),)), ifs(5, (("do", "one", ()),)), (("do", "three", ()),)):
            self.assertIs(need_script(ABC, book, script), script)
        self.bad((), ifs(3, (("do", "three", ()),)), book)
        self.bad((), ifs(6, (("do", "one", ()),)), book)
        self.assertEqual(need_script(ABC, book, (("do", "six", ()),)), (("do", "six", ()),))
        self.bad((), ifs(1, (("do", "six", ()),)), book)
        self.bad((1,), (ifs(1, (("do", "six", ()),))[0], ("do", "seven", ())), book)
        # A BODY that is just deep enough to stand in a BOOK, but for no SCRIPT to do it.
        full = (("y", (), ifs(6)),)
        self.assertIs(need_book(ABC, full), full)
        self.bad((), (("do", "y", ()),), full)
        self.bad_book((1,), full + (("z", (), (("do", "y", ()),)),))

    def test_how_many(self):
        book = (("y", (), (OFF,) * 30), ("z", (), (("do", "y", ()),) * 6), ("x", (), (("do", "z", ()), OFF)))
        self.assertIs(need_book(ABC, book), book)
        # The BODY of z has 186 DEEDs, that of x 188.
        for script in ((("do", "z", ()),) + (OFF,) * 13, (("do", "x", ()),) + (OFF,) * 11):
            self.assertIs(need_script(ABC, book, script), script)
            self.bad((), script + (OFF,), book)
        self.bad((), (("do", "y", ()),) * 7, book)
        self.bad((7,), (("do", "y", ()),) * 7 + (None,), book)
        self.bad((), (("if", "a", "b", (("do", "z", ()),), (("do", "y", ()),)),), book)
        self.bad_book((2,), book[:2] + (("x", (), (("do", "y", ()),) * 7),))
        full = book[:2] + (("x", (), (("do", "z", ()),) + (OFF,) * 13),)
        self.assertIs(need_book(ABC, full), full)
        self.bad((), (("do", "x", ()),), full)

from random import Random

from namedcuts.errors import BadNumber, BadRolling, BadText, Late, Missing
from namedcuts.window import Window
from plain_rolling import CUT, Table, rollings_to_try
from refusals import Refusals
from trials import ODD, WRONG

ONE = ((1, 0, CUT),)
KEEP = ((1, 0, CUT), (1, 0, ("keep", 2)), (1, 0, ("move", 2, "hut")))
MOST = 10 ** 18
WRONG_KEYS = [thing for thing in WRONG if isinstance(thing, bool) or not isinstance(thing, int)]
WRONG_KEYS += [10 ** 39, MOST + 1, -MOST - 1, 10 ** 40, "5", (5,)]
WRONG_TEXTS = [thing for thing in WRONG if not isinstance(thing, str) or "\n" in thing]
WRONG_TEXTS += ["x" * 101, "\n", "a\nb", "x" * 99 + "\n\n", b"text", ["t"]]


class Plain:
    """A window done plainly: the interval of a key is that of the last moment that is not behind it."""

    def __init__(self, rolling):
        self.table = Table(rolling)
        self.moments = []
        self.rows = {}

    def interval(self, key):
        return max([0] + [at for at, low in enumerate(self.moments, 1) if low <= key])

    def number(self, key):
        return self.table.place(self.interval(key))

    def tick(self, moment):
        self.moments.append(moment)
        self.table.tick()
        gone = {key: text for key, text in self.rows.items() if self.number(key) == -1}
        self.rows = {key: text for key, text in self.rows.items() if key not in gone}
        return tuple(sorted(gone.items()))


class Ticks(Refusals):
    def test_against_rows_one_by_one(self):
        chance = Random(31)
        late = 0
        for rolling in rollings_to_try(40, 32):
            window, plain = Window(rolling), Plain(rolling)
            for _ in range(40):
                for _ in range(chance.randint(0, 4)):
                    key, text = chance.randint(-20, 150), chance.choice(("a", "b", ""))
                    number = plain.number(key)
                    self.assertEqual(window.number_at(key), number)
                    if number == -1:
                        late += 1
                        self.refused(Late, {"given": key}, window.put, key, text)
                    else:
                        self.assertEqual(window.put(key, text), number)
                        plain.rows[key] = text
                moment = (plain.moments or [-10])[-1] + chance.choice((0, 0, 1, 3, 9))
                self.assertEqual(window.tick(moment), plain.tick(moment))
                self.stand_alike(window, plain)
        self.assertGreater(late, 100)

    def stand_alike(self, window, plain):
        self.assertEqual(window.moments, tuple(plain.moments))
        self.assertEqual(len(window), len(plain.rows))
        self.assertEqual(window.ask(-1000, 1000), tuple(sorted(plain.rows.items())))
        for key, text in plain.rows.items():
            self.assertEqual(window[key], text)
        values = ["-", *plain.moments]
        bounds = plain.table.bounds()
        told = [(values[low], values[high], house)
                for low, high, house in zip(bounds, bounds[1:], plain.table.houses()[::-1])]
        self.assertEqual(window.closed(), tuple(told[::-1]))

    def test_by_hand(self):
        window = Window(KEEP)
        self.assertEqual((window.moments, len(window), window.closed()), ((), 0, ()))
        self.assertEqual(window.put(5, "five"), 0)
        self.assertEqual(window.put(-5, "minus"), 0)
        self.assertEqual(window.tick(0), ())
        self.assertEqual([window.number_at(key) for key in (-1, 0, 1)], [1, 0, 0])
        self.assertEqual(window.tick(10), ())
        self.assertEqual(window.closed(), ((0, 10, "home"), ("-", 0, "hut")))
        self.assertEqual(window.put(5, "new"), 1)
        self.assertEqual(window.tick(10), ((-5, "minus"),))
        # The interval between two like MOMENTS has no KEYs.
        self.assertEqual(window.closed(), ((10, 10, "home"), (0, 10, "hut")))
        self.assertEqual([window.number_at(key) for key in (-1, 0, 9, 10)], [-1, 2, 2, 0])
        self.assertEqual(window[5], "new")
        self.refused(Missing, {"given": -5}, window.__getitem__, -5)
        self.refused(Late, {"given": -5}, window.put, -5, "again")
        self.assertEqual(window.tick(20), ((5, "new"),))
        self.assertEqual((len(window), window.moments), (0, (0, 10, 10, 20)))

    def test_rows_ascend_that_are_taken_off(self):
        window = Window(((1, 0, CUT), (1, 0, ("keep", 0))))
        for key in (3, -1, 7, 2):
            window.put(key, str(key))
        self.assertEqual(window.tick(5), ((-1, "-1"), (2, "2"), (3, "3")))
        self.assertEqual(window.ask(-9, 9), ((7, "7"),))

    def test_moments_that_are_less_than_the_last_one(self):
        window = Window(ONE)
        window.tick(7)
        self.refused(BadNumber, {"given": 6}, window.tick, 6)
        self.assertEqual((window.moments, window.closed()), ((7,), (("-", 7, "home"),)))
        window.tick(7)
        window.tick(MOST)
        self.refused(BadNumber, {"given": 7}, window.tick, 7)
        self.assertEqual(window.moments, (7, 7, MOST))


class Rows(Refusals):
    def test_ends_of_numbers(self):
        window = Window(ONE)
        for key in (-MOST, MOST):
            self.assertEqual((window.put(key, "x"), window.number_at(key), window[key]), (0, 0, "x"))
            self.assertEqual(window.tick(key), ())
        self.assertEqual(window.ask(-MOST, MOST), ((-MOST, "x"),))
        for thing in WRONG_KEYS:
            self.bad(BadNumber, thing, window.tick, thing)
            self.bad(BadNumber, thing, window.put, thing, None)
            self.bad(BadNumber, thing, window.number_at, thing)
            self.bad(BadNumber, thing, window.ask, thing, None)
            self.bad(BadNumber, thing, window.ask, 0, thing)
            self.bad(Missing, thing, window.__getitem__, thing)

    def test_texts(self):
        window = Window(ONE)
        for text in ("", " ", "x" * 100, "~ !"):
            window.put(1, text)
            self.assertEqual((window[1], len(window)), (text, 1))
        for text in WRONG_TEXTS:
            self.refused(BadText, {"line": -1, "place": -1}, window.put, 1, text)
        self.assertEqual(window[1], "~ !")
        # A text that is none is refused ahead of a KEY that comes too late.
        gone = Window(((1, 0, CUT), (1, 0, ("keep", 0))))
        gone.tick(5)
        self.refused(BadText, {"line": -1, "place": -1}, gone.put, 1, "\n")
        self.refused(Late, {"given": 1}, gone.put, 1, "")

    def test_true_is_no_key(self):
        window = Window(ONE)
        window.put(1, "one")
        window.put(0, "zero")
        for thing in (True, False, ODD):
            self.bad(Missing, thing, window.__getitem__, thing)

    def test_ask(self):
        window = Window(ONE)
        for key in (4, 1, 3, 2):
            window.put(key, "t")
        self.assertEqual(window.ask(2, 4), ((2, "t"), (3, "t")))
        self.assertEqual([window.ask(*two) for two in ((2, 2), (3, 2), (5, 9), (-9, 1))], [()] * 4)
        self.assertEqual(window.ask(1, 2), ((1, "t"),))

    def test_the_same(self):
        def made(rolling=ONE, moments=(1, 2), rows=((5, "a"), (1, "b"))):
            window = Window(rolling)
            for moment in moments:
                window.tick(moment)
            for key, text in rows:
                window.put(key, text)
            return window
        self.assertTrue(made() == made() and not made() != made())
        self.assertTrue(made() == made(rows=((1, "x"), (1, "b"), (5, "a"))))
        for other in (made(ONE * 2), made(moments=(1, 3)), made(moments=(1,)), made(rows=((5, "a"),)),
                      made(rows=((5, "a"), (1, "c"))), None, 5, (), ((5, "a"), (1, "b")), object()):
            self.assertFalse(made() == other)
            self.assertTrue(made() != other)

    def test_it_is_not_gone_through(self):
        window = Window(ONE)
        window.put(0, "zero")
        self.assertRaises(TypeError, iter, window)
        self.assertRaises(TypeError, list, window)
        with self.assertRaises(TypeError):
            0 in window

    def test_it_has_no_part_in_what_it_gave(self):
        window = Window(ONE)
        moments = window.moments
        window.tick(5)
        self.assertEqual((moments, window.moments), ((), (5,)))
        self.assertRaises(AttributeError, setattr, window, "moments", ())

    def test_no_rolling(self):
        for thing in WRONG:
            self.assertRaises(BadRolling, Window, thing)
        self.refused(BadRolling, {"number": 1}, Window, (*ONE, None))

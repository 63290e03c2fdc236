from namedcuts.errors import BadNumber, BadRolling
from namedcuts.rolling import (bounds_behind, houses_behind, most_parts, most_read, need_rolling, period_of, place_of,
                               top_number)
from plain_rolling import CUT, EVERIES, NAMED, period_plainly, rollings_to_try, tables, top_plainly
from refusals import Refusals
from trials import ODD, WRONG

ONE = ((1, 0, CUT),)
FAR = 10 ** 30


class Forms(Refusals):
    def no(self, number, thing):
        self.refused(BadRolling, {"number": number}, need_rolling, thing)

    def test_each_roll_in_each_place(self):
        rolls = [CUT, ("join", 1, 2), ("join", 8, 9), ("join", 1, 9), ("keep", 0), ("keep", 9), ("move", 1, "a"),
                 ("move", 9, "zzzzzz")]
        for roll in rolls:
            for ahead in range(8):
                rolling = ((1, 0, CUT),) * ahead + ((3, 2, roll),)
                self.assertIs(need_rolling(rolling), rolling)

    def test_rolls_that_are_none(self):
        wrong = [("cut", 1), ("cuts",), (), ("join",), ("join", 1), ("join", 0, 2), ("join", 2, 2), ("join", 3, 2),
                 ("join", 1, 10), ("join", 1, 2, 3), ("join", True, 2), ("join", 1, "2"), ("keep",), ("keep", -1),
                 ("keep", 10), ("keep", False), ("keep", True), ("keep", 1, 1), ("move", 0, "a"), ("move", 10, "a"),
                 ("move", True, "a"), ("move", 1, ""), ("move", 1, "A"), ("move", 1, "abcdefg"), ("move", 1),
                 ("move", 1, 1), ("join", 1, "a"), ("keep", "a"), ["cut"], "cut", ("drop", 1, 2), (CUT,)]
        for roll in [*wrong, *WRONG]:
            for ahead in (0, 3):
                self.no(ahead, ((1, 0, CUT),) * ahead + ((1, 0, roll), (5, 5, CUT)))

    def test_every_and_from(self):
        for every in range(-1, 15):
            for start in range(-1, 15):
                line = (every, start, CUT)
                if every in EVERIES and 0 <= start < every:
                    self.assertEqual(need_rolling((line,)), (line,))
                else:
                    self.no(0, (line,))
        for thing in WRONG:
            if thing != 1 or isinstance(thing, bool) or thing is ODD:
                self.no(0, ((thing, 0, CUT),))
            if not (isinstance(thing, int) and not isinstance(thing, bool) and 0 <= thing < 12):
                self.no(1, ((1, 0, CUT), (12, thing, CUT)))

    def test_what_is_no_tuple_of_lines(self):
        for thing in (*WRONG, (ONE[0],) * 9, [ONE[0]], ()):
            if not (isinstance(thing, tuple) and thing and len(thing) < 9):
                self.no(None, thing)
        for thing in WRONG:
            self.no(0, (thing, thing))
            self.no(7, ONE * 7 + (thing,))
        for line in ((1, 0), (1, 0, CUT, CUT), [1, 0, CUT]):
            self.no(0, (line,))
        self.assertEqual(need_rolling(ONE * 8), ONE * 8)

    def test_all_functions_refuse_it_first(self):
        calls = [(period_of, ()), (top_number, ()), (bounds_behind, (None,)), (houses_behind, (None,)),
                 (place_of, (None, None)), (most_parts, ()), (most_read, (None,))]
        for call, given in calls:
            self.refused(BadRolling, {"number": None}, call, (), *given)
            self.refused(BadRolling, {"number": 1}, call, (ONE[0], ()), *given)

    def test_period_and_top(self):
        for rolling in rollings_to_try(60, 1):
            self.assertEqual(period_of(rolling), period_plainly(rolling))
            self.assertEqual(top_number(rolling), top_plainly(rolling))
        self.assertEqual((period_of(ONE), top_number(ONE)), (1, 30))
        self.assertEqual(period_of(((4, 1, CUT), (6, 0, CUT))), 12)
        self.assertEqual(period_of(((2, 1, CUT), (3, 0, CUT))), 6)
        # Due at six of twelve ticks, and at one: six times 3, and 8; 9 is the greatest number.
        self.assertEqual(top_number(((2, 1, ("join", 1, 4)), (12, 0, ("join", 1, 9)))), 9 + 6 * 3 + 8 + 30)
        self.assertEqual(top_number(((2, 1, ("move", 7, "a")), (1, 0, ("keep", 3)))), 37)
        self.assertEqual(top_number(((2, 1, ("keep", 8)),)), 38)


class Ticks(Refusals):
    def test_bounds_and_houses_line_by_line(self):
        for rolling in rollings_to_try(40, 2):
            for table in tables(rolling, 60):
                self.assertEqual(bounds_behind(rolling, table.number), table.bounds(), rolling)
                self.assertEqual(houses_behind(rolling, table.number), table.houses(), rolling)

    def test_they_are_told_up_to_300(self):
        for rolling in NAMED:
            *_, table = tables(rolling, 300)
            self.assertEqual(bounds_behind(rolling, 300), table.bounds())
            self.assertEqual(houses_behind(rolling, 300), table.houses())

    def test_by_hand(self):
        self.assertEqual(bounds_behind(ONE, 0), (0,))
        self.assertEqual(houses_behind(ONE, 0), ())
        twice = ((1, 0, CUT), (1, 0, ("move", 1, "a")), (1, 0, CUT), (1, 0, ("move", 1, "b")))
        self.assertEqual(bounds_behind(twice, 2), (0, 1, 2))
        self.assertEqual(houses_behind(twice, 2), ("b", "b"))
        few = ((1, 0, CUT), (1, 0, ("join", 2, 3)), (1, 0, ("move", 3, "hut")))
        self.assertEqual(bounds_behind(few, 2), (0, 1, 2))
        self.assertEqual(houses_behind(few, 9), ("home", "home"))
        self.assertEqual(bounds_behind(few, 3), (0, 2, 3))
        none = ((1, 0, CUT), (2, 0, ("keep", 0)))
        self.assertEqual([bounds_behind(none, tick) for tick in range(4)], [(0,), (0, 1), (2,), (2, 3)])
        # The LINES of one tick are done in their order.
        turned = ((1, 0, ("keep", 1)), (1, 0, CUT))
        self.assertEqual(bounds_behind(turned, 9), (7, 8, 9))
        # What is joined lies in the HOUSE of the newest piece.
        joined = ((1, 0, CUT), (3, 0, ("move", 1, "hut")), (4, 0, ("join", 2, 4)))
        self.assertEqual((bounds_behind(joined, 4), houses_behind(joined, 4)), ((0, 3, 4), ("home", "hut")))

    def test_wrong_numbers(self):
        for call in (bounds_behind, houses_behind):
            for thing in (-1, 301, *[thing for thing in WRONG if thing not in (0, 1) or thing in (True, False)]):
                if isinstance(thing, int) and not isinstance(thing, bool) and 0 <= thing <= 300:
                    continue
                self.bad(BadNumber, thing, call, ONE, thing)


class Places(Refusals):
    def test_of_each_interval_behind_many_ticks(self):
        for rolling in rollings_to_try(30, 3):
            for table in tables(rolling, 40):
                places = table.places()
                for interval in range(table.number + 1):
                    self.assertEqual(place_of(rolling, interval, table.number), places.get(interval, -1), rolling)

    def test_behind_more_ticks_than_can_be_done(self):
        for rolling in rollings_to_try(25, 4):
            found = {table.number: table.places() for table in tables(rolling, 800)}
            for age in (0, 1, 7, 40, 100):
                # What has gone round by now goes on so: by the same number each time, in twelve rounds of 12 ticks.
                for tick in range(788, 800):
                    here = found[tick].get(tick - age, -1)
                    self.assertEqual(place_of(rolling, tick - age, tick), here)
            for interval in (0, 5, 30):
                for tick in range(657, 657 + 12):
                    was, now = found[tick - 144].get(interval, -1), found[tick].get(interval, -1)
                    far = tick + 144 * (FAR // 144 - 10)
                    self.assertEqual(place_of(rolling, interval, far), now + (now - was) * (FAR // 144 - 10), rolling)

    def test_the_newest_and_the_furthest(self):
        self.assertEqual(place_of(ONE, 0, FAR), FAR)
        self.assertEqual(place_of(ONE, FAR, FAR), 0)
        self.assertEqual(place_of(ONE, FAR - 5, FAR), 5)
        keep = ((1, 0, CUT), (1, 0, ("keep", 3)))
        self.assertEqual([place_of(keep, FAR - age, FAR) for age in range(6)], [0, 1, 2, 3, -1, -1])
        slow = ((1, 0, CUT), (12, 0, ("join", 1, 9)), (12, 0, ("join", 1, 4)))
        self.assertEqual(place_of(slow, 0, 12 * 10 ** 6), 10 ** 6)

    def test_wrong_numbers(self):
        wrong = [thing for thing in WRONG if isinstance(thing, bool) or not isinstance(thing, int)]
        for thing in (*wrong, -1, FAR + 1):
            self.bad(BadNumber, thing, place_of, ONE, None, thing)
            self.bad(BadNumber, thing, place_of, ONE, thing, FAR)
        self.bad(BadNumber, 6, place_of, ONE, 6, 5)
        self.refused(BadNumber, {"given": -1}, place_of, ONE, 7, -1)


class Most(Refusals):
    def test_parts_for_all_ticks(self):
        for rolling in rollings_to_try(80, 5):
            numbers = [len(table.closed) for table in tables(rolling, 900)]
            top = max(numbers)
            told = most_parts(rolling)
            if told is None:
                self.assertGreater(max(numbers[-24:]), max(numbers[400:424]), rolling)
            else:
                self.assertEqual(told, top, rolling)

    def test_parts_by_hand(self):
        self.assertIsNone(most_parts(ONE))
        self.assertEqual(most_parts(((1, 0, ("keep", 3)),)), 0)
        self.assertEqual(most_parts(((1, 0, CUT), (12, 0, ("keep", 9)))), 20)
        # As many are joined as are cut: 4 are there only within a tick, ahead of "join".
        self.assertEqual(most_parts(((1, 0, CUT), (2, 0, ("join", 1, 3)))), 3)
        self.assertIsNone(most_parts(((1, 0, CUT), (12, 0, ("join", 1, 9)), (12, 0, ("join", 1, 4)))))

    def test_read_for_all_ticks(self):
        for rolling in rollings_to_try(25, 6):
            best = {}
            for table in tables(rolling, 500):
                places = table.places()
                for width in (1, 2, 3, 5, 12, 30, 49, 50):
                    low = max(0, table.number - width + 1)
                    many = len({places[one] for one in range(low, table.number + 1) if one in places})
                    best[width] = max(best.get(width, 0), many)
            for width, most in best.items():
                self.assertEqual(most_read(rolling, width), most, (rolling, width))

    def test_read_by_hand(self):
        self.assertEqual([most_read(ONE, width) for width in range(1, 51)], list(range(1, 51)))
        self.assertEqual(most_read(((1, 0, ("keep", 0)),), 50), 1)
        keep = ((1, 0, CUT), (1, 0, ("keep", 2)))
        self.assertEqual([most_read(keep, width) for width in (1, 2, 3, 4, 50)], [1, 2, 3, 3, 3])

    def test_wrong_widths(self):
        wrong = [thing for thing in WRONG if isinstance(thing, bool) or not isinstance(thing, int)]
        for thing in (*wrong, 0, -1, 51, 10 ** 39):
            self.bad(BadNumber, thing, most_read, ONE, thing)

from unittest.mock import patch

from namedcuts.errors import BadNumber, BadPaper, BadRolling, TooMany
from namedcuts.lives import check_life, grace, greatest_life, least_keep, least_life, life_of, on_life
from namedcuts.rolling import place_of, top_number
from plain_rolling import CUT, NAMED, is_lot_plainly, lives_plainly, period_plainly, rollings_to_try, step_plainly
from refusals import Refusals
from trials import ODD, WRONG

ONE = ((1, 0, CUT),)
KEEP = ((1, 0, CUT), (1, 0, ("keep", 3)))
NINE = ((1, 0, CUT), (1, 0, ("keep", 9)), (12, 3, ("join", 3, 9)), (12, 4, ("join", 1, 5)))
NUMBERS = [thing for thing in WRONG if isinstance(thing, bool) or not isinstance(thing, int)]
FAR = 10 ** 30
TICKS = 600


class Lives(Refusals):
    def lives(self, rolling):
        """The lives of the intervals whose end would be seen, if they had one."""
        return {interval: life for interval, life in lives_plainly(rolling, TICKS).items() if interval < TICKS - 300}

    def test_against_all_ticks(self):
        for rolling in rollings_to_try(60, 11):
            lives = self.lives(rolling)
            for interval in [*range(40), 100, 150, 299]:
                self.assertEqual(life_of(rolling, interval), lives[interval], (rolling, interval))
            ended = [(life, interval) for interval, life in lives.items() if life is not None]
            self.assertEqual(least_life(rolling), min(ended, default=None), rolling)
            self.assertEqual(grace(rolling), min(ended)[0] - 1 if ended else None)
            endless = [interval for interval, life in lives.items() if life is None]
            if endless:
                self.assertEqual(greatest_life(rolling), (None, endless[0]), rolling)
            else:
                most = max(ended)[0]
                self.assertEqual(greatest_life(rolling), (most, min(at for life, at in ended if life == most)))

    def test_of_huge_intervals(self):
        for rolling in rollings_to_try(25, 12):
            lives = self.lives(rolling)
            for interval in range(288, 300):
                far = interval + 12 * 5040 * 10 ** 25
                self.assertEqual(life_of(rolling, far), lives[interval - 144], rolling)
        self.assertEqual(life_of(KEEP, FAR), 4)
        self.assertIsNone(life_of(ONE, FAR))

    def test_a_greater_number_may_let_go_sooner(self):
        for number, life in ((8, 13), (9, 12)):
            rolling = tuple((every, start, ("keep", number) if roll[0] == "keep" else roll)
                            for every, start, roll in NINE)
            # At the tick 1203, which is 3 modulo 12, the interval 1198 has the number 5 ahead of what is joined.
            self.assertEqual(place_of(rolling, 1198, 1202), 4)
            self.assertEqual(life_of(rolling, 1198), life)

    def test_by_hand(self):
        self.assertEqual(least_life(KEEP), (4, 0))
        self.assertEqual(greatest_life(KEEP), (4, 0))
        self.assertEqual(grace(KEEP), 3)
        none = ((1, 0, CUT), (1, 0, ("keep", 0)))
        self.assertEqual((least_life(none), grace(none)), ((1, 0), 0))
        # What comes at an odd tick is taken off at the next one; the first interval has to wait for two.
        odd = ((1, 0, CUT), (2, 0, ("keep", 0)))
        self.assertEqual((least_life(odd), greatest_life(odd)), ((1, 1), (2, 0)))
        for rolling in (ONE, ((1, 0, ("keep", 0)),), ((1, 0, CUT), (1, 0, ("join", 1, 2)), (1, 0, ("keep", 1)))):
            self.assertEqual((least_life(rolling), grace(rolling), greatest_life(rolling)), (None, None, (None, 0)))
        both = ((1, 0, CUT), (12, 0, ("keep", 0)), (1, 0, ("keep", 9)))
        self.assertEqual((least_life(both), greatest_life(both)), ((1, 11), (10, 0)))
        # The first five intervals are joined to one part that stays, and so are all behind them.
        stay = ((1, 0, CUT), (1, 0, ("join", 4, 5)), (1, 0, ("keep", 4)))
        self.assertEqual((least_life(stay), greatest_life(stay)), (None, (None, 0)))

    def test_wrong_numbers(self):
        for thing in (*NUMBERS, -1, FAR + 1):
            self.bad(BadNumber, thing, life_of, ONE, thing)
        for call, given in ((life_of, (None,)), (least_life, ()), (greatest_life, ()), (grace, ()),
                            (least_keep, (None,)), (on_life, (None,)), (check_life, (None, None))):
            self.refused(BadRolling, {"number": 0}, call, (None,), *given)


class Keep(Refusals):
    def with_keep(self, rolling, number):
        return tuple((every, start, ("keep", number) if roll[0] == "keep" else roll) for every, start, roll in rolling)

    def test_with_each_number(self):
        for rolling in rollings_to_try(40, 13):
            told = [grace(self.with_keep(rolling, number)) for number in range(10)]
            for late in (0, 1, 2, 5, 8, 12, 20, 40):
                enough = [number for number, one in enumerate(told) if one is None or one >= late]
                self.assertEqual(least_keep(rolling, late), enough[0] if enough else None, rolling)

    def test_by_hand(self):
        self.assertEqual([least_keep(KEEP, late) for late in (0, 1, 9, 10, 40)], [0, 1, 9, None, None])
        self.assertEqual(least_keep(ONE, 40), 0)
        both = ((1, 0, CUT), (1, 0, ("keep", 1)), (2, 0, ("keep", 9)))
        self.assertEqual(least_keep(both, 5), 5)

    def test_wrong_numbers(self):
        for thing in (*NUMBERS, -1, 41, 10 ** 39):
            self.bad(BadNumber, thing, least_keep, ONE, thing)


class Papers(Refusals):
    def test_papers_hold_and_are_of_the_right_form(self):
        words = {"lot": 0, "gone": 0}
        for rolling in rollings_to_try(30, 14):
            least = least_life(rolling)
            for asked in (1, 2, 3, 5, 9, 20, 40):
                try:
                    paper = on_life(rolling, asked)
                except TooMany:
                    continue
                words[paper[0]] += 1
                self.assertEqual(check_life(rolling, asked, paper), paper[0])
                if least is not None and least[0] < asked:
                    self.assertEqual(paper, ("gone", least[1], least[0]))
                else:
                    self.assertEqual(paper[0], "lot")
                    self.assertTrue(is_lot_plainly(rolling, asked, set(paper[1])), rolling)
                    self.assertEqual(paper[1], self.come_to(rolling, asked))
        self.assertGreater(min(words.values()), 20)

    def come_to(self, rolling, least):
        """What is come to."""
        found = {(0, 0, 0, 0)}
        new = list(found)
        while new:
            new = list({thing for one in new for thing in self.nexts(rolling, least, *one)} - found)
            found.update(new)
        return tuple(sorted(found))

    def nexts(self, rolling, least, phase, many, place, age):
        more, onward = step_plainly(rolling, phase + 1, many, place)
        new = (phase + 1) % period_plainly(rolling)
        yield (new, more, 0, 0)
        if age + 1 < least:
            yield (new, more, onward, age + 1)

    def test_each_thing_of_a_lot_is_wanted(self):
        for rolling in NAMED[:8]:
            for least in (1, 3, 4):
                word, *told = on_life(rolling, least)
                if word == "lot" and len(told[0]) < 200:
                    lot = told[0]
                    for at in range(len(lot)):
                        less = lot[:at] + lot[at + 1:]
                        self.refused(BadPaper, {"part": "lot"}, check_life, rolling, least, ("lot", less))

    def test_lots_with_more_in_them(self):
        rolling = KEEP
        word, lot = on_life(rolling, 4)
        # A thing more must be followed by its own ones; one from which nothing new is come to does no harm.
        self.assertEqual(check_life(rolling, 4, ("lot", tuple(sorted([*lot, (0, 3, 0, 3)])))), "lot")
        self.refused(BadPaper, {"part": "lot"}, check_life, rolling, 4, ("lot", tuple(sorted([*lot, (0, 33, 0, 0)]))))
        # With a place that is taken off by the next tick there is none.
        self.refused(BadPaper, {"part": "lot"}, check_life, rolling, 4, ("lot", tuple(sorted([*lot, (0, 3, 3, 1)]))))
        self.assertEqual(check_life(rolling, 4, ("lot", tuple(sorted([*lot, (0, 2, 3, 3)])))), "lot")
        # What is TOP stays so, whatever the LINES are.
        top = top_number(rolling)
        more = [(0, top, 0, 0), *[(0, top, place, place) for place in (1, 2, 3)]]
        self.assertEqual(check_life(rolling, 4, ("lot", tuple(sorted([*lot, *more])))), "lot")
        self.assertEqual(check_life(rolling, 4, ("lot", tuple(sorted([*lot, *more, (0, 3, top, 1), (0, 3, top, 2),
                                                                      (0, 3, top, 3)])))), "lot")

    def test_forms(self):
        _, lot = on_life(KEEP, 4)
        top = top_number(KEEP)
        wrong = [*WRONG, ("lot",), ("lot", lot, lot), ("lot", list(lot)), ["lot", lot], ("lots", lot), (ODD, lot),
                 ("gone", 0), ("gone", 0, 4, 1), ("gone", True, 4), ("gone", 0, True), ("gone", -1, 4),
                 ("gone", 0, -1), ("gone", FAR + 1, 1), ("gone", 0, FAR + 1), ("gone", 0, "4"), ("gone", None, 3),
                 ["gone", 0, 3], ("lot", lot[::-1]), ("lot", lot + lot[-1:]), ("lot", lot + (lot[0],)),
                 *[("lot", (*lot, thing)) for thing in WRONG]]
        for thing in ((1, 0, 0, 0), (0, top + 1, 0, 0), (0, 0, top + 1, 0), (0, 0, 0, 4), (-1, 0, 0, 0), (0, -1, 0, 0),
                      (0, 0, -1, 0), (0, 0, 0, -1), (0, 0, 0), (0, 0, 0, 0, 0), (0, 0, 0, False), (True, 0, 0, 0),
                      (0, "0", 0, 0), [0, 0, 0, 0]):
            wrong.append(("lot", (thing,)))
        for paper in wrong:
            self.refused(BadPaper, {"part": "form"}, check_life, KEEP, 4, paper)
        self.refused(BadPaper, {"part": "lot"}, check_life, KEEP, 4, ("lot", ()))
        self.refused(BadPaper, {"part": "lot"}, check_life, KEEP, 4, ("lot", ((0, top, top, 3),)))

    def test_most_things_of_a_lot(self):
        period = ((12, 0, CUT), (1, 0, ("keep", 9)))
        things = tuple((phase, many, place, 0) for phase in range(12) for many in range(20) for place in range(20))
        self.refused(BadPaper, {"part": "lot"}, check_life, period, 5, ("lot", things[:4000]))
        self.refused(BadPaper, {"part": "form"}, check_life, period, 5, ("lot", things[:4001]))

    def test_gone(self):
        for interval, age, holds in ((0, 4, True), (0, 3, False), (7, 4, True), (FAR, 4, True), (0, 5, True),
                                     (0, 39, True), (0, 0, False), (0, 40, False), (FAR, 3, False), (0, FAR, False)):
            paper = ("gone", interval, age)
            if holds:
                self.assertEqual(check_life(KEEP, 40, paper), "gone")
            else:
                self.refused(BadPaper, {"part": "gone"}, check_life, KEEP, 40, paper)
        self.refused(BadPaper, {"part": "gone"}, check_life, KEEP, 4, ("gone", 0, 4))
        self.refused(BadPaper, {"part": "gone"}, check_life, KEEP, 1, ("gone", 0, 4))
        self.assertEqual(check_life(KEEP, 5, ("gone", 0, 4)), "gone")

    def test_the_least_age_and_then_the_least_interval(self):
        odd = ((1, 0, CUT), (2, 0, ("keep", 0)))
        self.assertEqual(on_life(odd, 40), ("gone", 1, 1))
        self.assertEqual(on_life(odd, 1)[0], "lot")
        self.assertEqual(on_life(KEEP, 40), ("gone", 0, 4))
        self.assertEqual(on_life(KEEP, 4)[0], "lot")

    def test_too_many(self):
        slow = ((1, 0, CUT), (12, 0, ("join", 1, 9)), (12, 0, ("join", 1, 4)))
        self.refused(TooMany, {"most": 4000}, on_life, slow, 40)
        word, lot = on_life(slow, 4)
        self.assertEqual(word, "lot")
        with patch("namedcuts.lives.MOST_IN_LOT", len(lot)):
            self.assertEqual(on_life(slow, 4), ("lot", lot))
        with patch("namedcuts.lives.MOST_IN_LOT", len(lot) - 1):
            self.assertRaises(TooMany, on_life, slow, 4)

    def test_wrong_numbers(self):
        for thing in (*NUMBERS, 0, -1, 41, 10 ** 39):
            self.bad(BadNumber, thing, on_life, ONE, thing)
            self.bad(BadNumber, thing, check_life, ONE, thing, None)

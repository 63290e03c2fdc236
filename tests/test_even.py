from random import Random

from namedcuts.cases import cases
from namedcuts.errors import BadNumber, BadRolling
from namedcuts.even import are_even, idle_lines, lean, rolled, unlike_tick
from namedcuts.frames import need_frame
from namedcuts.layouts import need_layout, parts_at
from namedcuts.scripts import need_script, run_in
from plain_rolling import CUT, NAMED, Table, mixed_rolling, rollings_to_try, tables
from refusals import Refusals
from trials import WRONG, keys_of

ONE = ((1, 0, CUT),)
HUT = ("move", 2, "hut")
TICKS = 400


def unlike_plainly(one, other):
    """The first unlike tick, None if there is none up to so many."""
    for first, second in zip(tables(one, TICKS), tables(other, TICKS)):
        if first.bounds() != second.bounds() or first.houses() != second.houses():
            return first.number
    return None


class Even(Refusals):
    def test_against_the_first_ticks(self):
        chance = Random(21)
        found = {True: 0, False: 0}
        for rolling in rollings_to_try(60, 22):
            turned = list(rolling)
            chance.shuffle(turned)
            at = chance.randrange(len(rolling))
            pairs = [(rolling, tuple(turned)), (rolling, (rolling + rolling[at:at + 1])[:8]),
                     (rolling, mixed_rolling(chance)), (rolling, rolling)]
            if len(rolling) > 1:
                pairs.append((rolling[:at] + rolling[at + 1:], rolling))
            for one, other in pairs:
                tick = unlike_plainly(one, other)
                found[tick is None] += 1
                self.assertEqual(unlike_tick(one, other), tick, (one, other))
                self.assertEqual(unlike_tick(other, one), tick)
                self.assertIs(are_even(one, other), tick is None)
        self.assertGreater(min(found.values()), 60)

    def test_bounds_alike_and_houses_not(self):
        self.assertEqual(unlike_tick(ONE, ONE + ((1, 0, HUT),)), 2)
        self.assertEqual(unlike_tick(ONE + ((4, 3, HUT),), ONE + ((4, 3, ("move", 2, "shed")),)), 3)
        self.assertEqual(unlike_tick(ONE + ((4, 3, HUT),), ONE + ((4, 3, HUT), (12, 0, ("move", 3, "home")))), 12)
        self.assertIsNone(unlike_tick(ONE, ONE + ((1, 0, ("move", 5, "home")),)))
        self.assertEqual(unlike_tick(ONE, ((2, 0, CUT),)), 1)

    def test_late_ticks(self):
        slow = ((12, 0, CUT),)
        self.assertEqual(unlike_tick(slow, slow + ((1, 0, ("keep", 9)),)), 120)
        self.assertEqual(unlike_tick(slow, slow + ((1, 0, ("move", 9, "hut")),)), 108)
        self.assertEqual(unlike_tick(slow, slow + ((12, 1, ("join", 2, 9)),)), 109)
        # Four cuts and three joined: one part more in each twelve ticks.
        slow = ((3, 0, CUT), (12, 0, ("join", 1, 4)))
        self.assertEqual(unlike_tick(slow, slow + ((12, 0, ("move", 9, "hut")),)), 9 * 12)
        self.assertIsNone(unlike_tick(slow, slow + ((12, 0, ("move", 9, "home")),)))

    def test_houses_that_go_on_for_ever(self):
        # The ninth part takes all that come behind it, and keeps the HOUSE of the newest one.
        one = ONE + ((1, 0, ("join", 8, 9)), (12, 7, ("move", 8, "hut")))
        self.assertIsNone(unlike_tick(one, one[:1] * 2 + one[1:]))
        self.assertEqual(unlike_tick(one, one[:2]), 19)
        # A part that went past all numbers keeps its HOUSE, and no LINE comes to it any more.
        past = ONE + ((12, 0, ("move", 1, "hut")),)
        self.assertIsNone(unlike_tick(past, ((1, 0, CUT), (12, 0, ("move", 3, "home")), (12, 0, ("move", 1, "hut")))))

    def test_errors(self):
        for call in (are_even, unlike_tick):
            for thing in WRONG:
                self.assertRaises(BadRolling, call, thing, None)
                self.assertRaises(BadRolling, call, ONE, thing)
            self.refused(BadRolling, {"number": 1}, call, (*ONE, 1), None)
        for call, given in ((idle_lines, ()), (lean, ()), (rolled, (None,))):
            self.refused(BadRolling, {"number": 0}, call, (5,), *given)


class Idle(Refusals):
    def test_against_the_first_ticks(self):
        many = 0
        for rolling in rollings_to_try(50, 23):
            less = [rolling[:at] + rolling[at + 1:] for at in range(len(rolling))]
            idle = tuple(at for at, one in enumerate(less) if one and unlike_plainly(rolling, one) is None)
            self.assertEqual(idle_lines(rolling), idle, rolling)
            many += len(idle)
            told = lean(rolling)
            self.assertEqual(idle_lines(told), ())
            self.assertIsNone(unlike_plainly(rolling, told))
            expected = rolling
            while idle_lines(expected):
                at = idle_lines(expected)[0]
                expected = expected[:at] + expected[at + 1:]
            self.assertEqual(told, expected)
        self.assertGreater(many, 50)

    def test_by_hand(self):
        keep = (1, 0, ("keep", 3))
        for rolling in (ONE, ((3, 1, ("keep", 4)),), ((1, 0, HUT),)):
            self.assertEqual((idle_lines(rolling), lean(rolling)), ((), rolling))
        twins = (ONE[0], keep, keep, ONE[0])
        # Without the first cut "keep" would be done ahead of the other one.
        self.assertEqual(idle_lines(twins), (1, 2, 3))
        self.assertEqual(lean(twins), (ONE[0], keep))
        # None of them does anything: the last one has to stay.
        none = ((1, 0, keep[2]), (2, 0, HUT), (3, 1, ("join", 1, 2)))
        self.assertEqual((idle_lines(none), lean(none)), ((0, 1, 2), (none[2],)))


class Rolled(Refusals):
    def script_makes_it(self, rolling, ticks):
        frame, layout, script = rolled(rolling, ticks)
        need_frame(frame)
        need_layout(frame, layout)
        need_script(frame, (), script)
        names, facts = frame
        self.assertEqual(names, ("ta", "tb", "tc", "td", "te", "tf", "tg")[:ticks])
        self.assertEqual(facts, tuple((one, "upto", other) for one, other in zip(names, names[1:])))
        self.assertLessEqual({deed[0] for deed in script}, {"split", "join", "off", "move"})
        first = (("open", "-", "+", "home"),)
        self.assertEqual([(word, made) for _, word, _, made in cases(frame, (), first, script)], [("done", layout)])
        *_, table = tables(rolling, ticks)
        for world in ((3,) * ticks, tuple(range(2, 2 + 2 * ticks, 2)), tuple(4 * (at // 2) for at in range(ticks))):
            self.held_against(table, frame, layout, script, world)

    def held_against(self, table, frame, layout, script, world):
        """That in a world each key lies in the part that has its interval."""
        first = (("open", "-", "+", "home"),)
        self.assertEqual(run_in(frame, (), first, script, world)[0], "done")
        houses = {name: house for name, _, _, house in layout}
        ends = [max(held) + 1 for held, _ in table.closed]
        for key in keys_of(world):
            interval = max([0, *[at for at, low in enumerate(world, 1) if low <= key]])
            place = table.place(interval)
            names = parts_at(frame, layout, world, key)
            if place == -1:
                self.assertEqual(names, ())
                continue
            name = "open" if place == 0 else "p" + "abcdefg"[ends[place - 1] - 1]
            self.assertEqual(names, (name,))
            self.assertEqual(houses[name], "home" if place == 0 else table.closed[place - 1][1])
        self.assertEqual(len(layout), len(table.closed) + 1)

    def test_for_1_to_7_ticks(self):
        for rolling in rollings_to_try(60, 24):
            for ticks in range(1, 8):
                self.script_makes_it(rolling, ticks)

    def test_by_hand(self):
        self.assertEqual(rolled(ONE, 1)[:2], ((("ta",), ()), (("open", "ta", "+", "home"), ("pa", "-", "ta", "home"))))
        few = ((1, 0, CUT), (1, 0, HUT), (4, 0, ("join", 1, 2)), (1, 0, ("keep", 2)))
        self.assertEqual(rolled(few, 4)[1], (("open", "td", "+", "home"), ("pb", "ta", "tb", "hut"),
                                             ("pd", "tb", "td", "home")))
        self.assertEqual(rolled(((2, 0, CUT), (2, 0, ("keep", 0))), 3)[1], (("open", "tb", "+", "home"),))

    def test_the_most_deeds_are_few_enough(self):
        moves = tuple((1, 0, ("move", at, "abcdefg"[at - 1])) for at in range(1, 8))
        self.script_makes_it(((1, 0, CUT), *moves), 7)

    def test_wrong_numbers(self):
        wrong = [thing for thing in WRONG if isinstance(thing, bool) or not isinstance(thing, int)]
        for thing in (*wrong, 0, -1, 8, 10 ** 39):
            self.bad(BadNumber, thing, rolled, ONE, thing)


class Plainly(Refusals):
    def test_the_named_ones_are_of_all_kinds(self):
        self.assertEqual(Table(NAMED[0]).bounds(), (0,))
        self.assertEqual({roll[0] for rolling in NAMED for _, _, roll in rolling}, {"cut", "join", "keep", "move"})

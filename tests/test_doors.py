from random import Random
from unittest.mock import patch

from namedcuts import safety
from namedcuts.doors import exchanged, is_stuck, lean_manner, needless_acts, others
from namedcuts.errors import BadManner, BadPath, BadQuestion, TooMany
from namedcuts.manners import AGAINS, DOORS, HOWS, LEADS
from namedcuts.safety import is_sure
from plain_moving import A, B, C, Tale, chance_of, mixed_manner, mixed_path
from refusals import Refusals
from trials import WRONG

MOVE = ((A, (), ()), (B, (), ()))
STAY = ((A, (), ()), (A, (), ()))
AWAY = ((A, (), ()), ((), (), ()))
COMING = (((), (), ()), (A, (), ()))
LOST = ("any", "off", "list", "never", ("copy", "point", "drop"))
SURE = ("now", "off", "next", "never", ("seal", "copy", "point", "drain", "drop"))
CALLS = (needless_acts, lean_manner, exchanged, others)


def sure_on(manner, paths):
    return all(is_sure(manner, path) for path in paths)


def with_acts(manner, acts):
    return (*manner[:4], tuple(acts))


def without(manner, at):
    return with_acts(manner, manner[4][:at] + manner[4][at + 1:])


def needless_plainly(manner, paths):
    return tuple(at for at, word in enumerate(manner[4]) if word != "point" and sure_on(without(manner, at), paths))


def sure_ones(many, seed, most_paths):
    """So many manners with paths on all of which they are sure, some where there is something to be moved."""
    chance = Random(seed)
    found = []
    while len(found) < many:
        manner = SURE if chance.random() < 0.3 else mixed_manner(chance, most=5)
        paths = tuple(mixed_path(chance, 2) for _ in range(chance.randint(1, most_paths)))
        if sure_on(manner, paths) and any(path[0][0] != path[-1][0] for path in paths):
            found.append((manner, paths))
    return found


class Doors(Refusals):
    def test_over_one_path_and_over_several(self):
        acts = 0
        for manner, paths in sure_ones(30, 41, 3):
            needless = needless_plainly(manner, paths)
            self.assertEqual(needless_acts(manner, paths), needless)
            acts += len(needless)
            lean = manner
            while needless_plainly(lean, paths):
                lean = without(lean, needless_plainly(lean, paths)[0])
            self.assertEqual(lean_manner(manner, paths), lean)
            self.assertIn("point", lean[4])
            told = []
            for at in range(len(manner[4]) - 1):
                turned = list(manner[4])
                turned[at:at + 2] = turned[at + 1], turned[at]
                if manner[4][at] != manner[4][at + 1] and sure_on(with_acts(manner, turned), paths):
                    told.append(at)
            self.assertEqual(exchanged(manner, paths), tuple(told))
            self.assertEqual(others(manner, paths), self.others_plainly(manner, paths))
        self.assertGreater(acts, 30)

    def others_plainly(self, manner, paths):
        found = []
        for at, words in enumerate((DOORS, LEADS, HOWS, AGAINS)):
            for word in words:
                other = tuple(word if number == at else thing for number, thing in enumerate(manner))
                if other != manner and sure_on(other, paths):
                    found.append(other)
        return tuple(sorted(found))

    def test_the_manners_of_the_example(self):
        for call in CALLS:
            self.assertRaises(BadQuestion, call, LOST, (MOVE,))
        # "drop" alone is needless; and when it is gone, so is what waits for it.
        self.assertEqual(needless_acts(SURE, (MOVE,)), (4,))
        self.assertEqual(lean_manner(SURE, (MOVE,)), ("now", "off", "next", "never", ("seal", "copy", "point")))
        self.assertEqual(exchanged(SURE, (MOVE,)), ())
        self.assertEqual(others(SURE, (MOVE,)), (
            ("any", *SURE[1:]), ("now", "off", "next", "edition", SURE[4]), ("now", "off", "next", "own", SURE[4]),
            ("now", "on", *SURE[2:]), ("own", *SURE[1:])))

    def test_needless_on_one_path_and_not_on_another(self):
        self.assertEqual(needless_acts(SURE, (STAY,)), (0, 1, 3, 4))
        self.assertEqual(needless_acts(SURE, (AWAY,)), needless_plainly(SURE, (AWAY,)))
        self.assertEqual(needless_acts(SURE, (STAY, MOVE)), (4,))
        self.assertEqual(needless_acts(SURE, (MOVE, STAY)), (4,))
        self.assertEqual(lean_manner(SURE, (STAY,))[4], ("point",))
        self.assertEqual(lean_manner(SURE, (STAY, MOVE))[4], ("seal", "copy", "point"))
        self.assertEqual(exchanged(SURE, (STAY,)), (0, 1, 2, 3))

    def test_neighbours_that_are_alike(self):
        twice = with_acts(SURE, ("seal", "seal", "copy", "copy", "point", "tell", "tell"))
        self.assertIs(is_sure(twice, MOVE), True)
        self.assertEqual(exchanged(twice, (STAY,)), (1, 3, 4))
        self.assertEqual(needless_acts(twice, (MOVE,)), (0, 1, 2, 3, 5, 6))
        # The first needless one is left out, until none is.
        self.assertEqual(lean_manner(twice, (MOVE,))[4], ("seal", "copy", "point"))

    def test_point_alone(self):
        alone = with_acts(SURE, ("point",))
        self.assertEqual(needless_acts(alone, (STAY,)), ())
        self.assertEqual(lean_manner(alone, (STAY,)), alone)
        self.assertEqual(exchanged(alone, (STAY,)), ())


class Stuck(Refusals):
    def stuck_plainly(self, manner, path, chance):
        """What a writer by the last edition finds when all changes are made, after anything that may have come."""
        tale = Tale(manner, path, chance.random() < 0.5 and path[0][0] != ())
        while not tale.at_rest():
            events = [event for event in tale.every_event() if event[0] in ("act", "write", "erase", "look", "read")
                      and chance_of(tale, event)]
            tale.do(("act",) if ("act",) in events and chance.random() < 0.5 else chance.choice(events))
        last = len(path) - 1
        return path[-1][0] != () and tale.do(("write", last)) == ("refused",)

    def test_against_weavings_of_any_manner(self):
        chance = Random(42)
        seen = {True: 0, False: 0}
        for _ in range(400):
            manner, path = mixed_manner(chance), mixed_path(chance)
            told = is_stuck(manner, path)
            self.assertIs(told, self.stuck_plainly(manner, path, chance), (manner, path))
            seen[told] += 1
        self.assertGreater(min(seen.values()), 60)

    def test_by_hand(self):
        self.assertIs(is_stuck(SURE, MOVE), False)
        self.assertIs(is_stuck(LOST, MOVE), False)
        for manner in (with_acts(SURE, ("hold", "point")), with_acts(LOST, ("hold", "point"))):
            self.assertIs(is_stuck(manner, MOVE), True)
            self.assertIs(is_stuck(manner, AWAY), False)
            self.assertIs(is_stuck(manner, COMING), True)
            self.assertIs(is_stuck(manner, STAY), False)
            self.assertIs(is_stuck(manner, MOVE[:1]), False)
        # A SITE that was sealed and is come back to takes nothing.
        back = (*MOVE, MOVE[0])
        self.assertIs(is_stuck(SURE, back), True)
        self.assertIs(is_stuck(with_acts(SURE, (*SURE[4], "free")), back), False)
        # With the door "own" a SITE that was told nothing goes by an EDITION in which it is no SEAT.
        beside = ((A, (B,), ()), (B, (), ()))
        own = ("own", "off", "list", "never", ("copy", "point"))
        self.assertEqual((is_stuck(own, beside), is_stuck(own, MOVE)), (True, False))
        self.assertIs(is_stuck(("own", "on", *own[2:]), beside), True)
        self.assertIs(is_stuck(with_acts(own, ("copy", "point", "tell")), beside), False)
        self.assertIs(is_stuck(("any", *own[1:]), beside), False)

    def test_errors(self):
        for thing in WRONG:
            self.assertRaises(BadManner, is_stuck, thing, None)
            self.assertRaises(BadPath, is_stuck, SURE, thing)
        self.refused(BadPath, {"place": (1,)}, is_stuck, SURE, (MOVE[0], None))


class Errors(Refusals):
    def test_no_manner_and_no_paths(self):
        for call in CALLS:
            for thing in WRONG:
                self.assertRaises(BadManner, call, thing, None)
                if not (isinstance(thing, tuple) and 1 <= len(thing) <= 16):
                    self.refused(BadPath, {"place": ()}, call, SURE, thing)
            self.refused(BadManner, {"place": (4, 1)}, call, with_acts(SURE, ("point", "point")), ())
            for thing in ((), (MOVE,) * 17, [MOVE], MOVE[0][0]):
                self.assertRaises(BadPath, call, SURE, thing)
            self.refused(BadPath, {"place": ()}, call, SURE, (MOVE,) * 17)

    def test_the_first_that_is_no_path(self):
        for call in CALLS:
            for thing in WRONG:
                self.refused(BadPath, {"place": (1, *self.place_of(thing))}, call, LOST, (MOVE, thing, None))
            self.refused(BadPath, {"place": (0, 1)}, call, SURE, ((MOVE[0], (A, A)), ()))
            self.refused(BadPath, {"place": (2,)}, call, SURE, (MOVE, STAY, ()))

    def place_of(self, thing):
        return (0,) if isinstance(thing, tuple) and 1 <= len(thing) <= 5 else ()

    def test_not_sure_on_one_of_them(self):
        for call in CALLS:
            for paths in ((MOVE, STAY), (STAY, MOVE), (STAY, AWAY, MOVE), (STAY,) * 15 + (MOVE,)):
                self.assertRaises(BadQuestion, call, LOST, paths)
            call(LOST, (STAY,) * 16)

    def test_too_many(self):
        quick = ("any", "off", "list", "never", ("point",))
        with patch.object(safety, "MOST_STANDINGS", 100):
            for call in CALLS:
                self.refused(TooMany, {"most": 100}, call, SURE, (MOVE,))
                self.refused(TooMany, {"most": 100}, call, SURE, (STAY, MOVE))
                # What is not SURE on a later one is told first.
                self.refused(TooMany, {"most": 100}, call, quick, (STAY[:1] * 5,))
                self.assertRaises(BadQuestion, call, quick, (STAY[:1] * 5, MOVE))
                self.assertRaises(BadPath, call, SURE, (MOVE, ()))
        listed = ("now", "off", "list", "never", SURE[4])
        with patch.object(safety, "MOST_STANDINGS", len(safety.sure_paper(listed, STAY)[1])):
            # Of a MANNER that is looked at, too: with "next" there are more.
            self.assertEqual(needless_acts(listed, (STAY,)), (0, 1, 3, 4))
            self.assertRaises(TooMany, others, listed, (STAY,))

    def test_too_many_is_20000(self):
        wide = tuple((site, (), ()) for site in (A, B, C, ("d", "y"), ("e", "y")))
        free = ("own", "off", "whole", "edition", ("copy", "free", "both", "catch", "point", "tell", "free"))
        self.refused(TooMany, {"most": 20000}, needless_acts, free, (wide,))


class Given(Refusals):
    def test_nothing_given_is_changed_and_equal_calls_tell_the_same(self):
        for call in CALLS:
            self.assertEqual(call(SURE, (MOVE, STAY)), call(SURE, (MOVE, STAY)))

from random import Random

from namedcuts.errors import BadFrame, BadJournal, CutError, Missing
from namedcuts.store import Store, under
from plain_store import PlainStore, mixed_store_deed, values_to_try
from refusals import Refusals
from test_store import AB, FREE, MOST, state_of, store_with
from trials import ODD, WRONG, few_frames

SPLIT = ("split", "all", "b", "p", "q")
JOURNAL = (("bind", "a", 10), ("bind", "b", 20), ("do", SPLIT), ("put", 5, "five"), ("put", 25, "x"), ("put", 25, "y"),
           ("do", ("off", "q")), ("take", 5), ("bind", "c", 7), ("do", ("on", "q", "b", "+", "hut")))


class Broken(Exception):
    pass


def histories(many, seed, steps=25):
    """So many journals of things that can be done."""
    chance = Random(seed)
    for at in range(many):
        frame = few_frames()[at % len(few_frames())]
        values = values_to_try(frame, chance)
        plain = PlainStore(frame)
        for _ in range(steps):
            made = plain.made()
            thing = mixed_thing(frame, values, made, chance)
            if thing is not None:
                plain.journal.append(thing)
        yield frame, tuple(plain.journal)


def mixed_thing(frame, values, made, chance):
    free = [name for name in values if name not in made.values]
    key = chance.randint(-8, 14)
    roll = chance.random()
    if roll < 0.3 and free:
        return ("bind", free[0], values[free[0]])
    if roll < 0.45 and made.rows:
        return ("take", chance.choice(sorted(made.rows)))
    if roll < 0.7 and made.home(key) is not None:
        return ("put", key, chance.choice("xyz"))
    deed = mixed_store_deed(frame, made.parts, chance)
    return ("do", deed) if made.refusal(deed) is None else None


class Journals(Refusals):
    def test_there_and_back(self):
        for frame, journal in histories(60, 71):
            store = Store.of(frame, journal)
            self.assertEqual((store.journal, store.base), (journal, frame))
            again = Store.of(frame, store.journal)
            self.assertTrue(again == store)
            self.assertEqual(state_of(again), state_of(store))
        self.assertEqual(Store.of(FREE, JOURNAL).journal, JOURNAL)
        self.assertTrue(Store.of(FREE, ()) == Store(FREE))

    def test_its_things_can_be_undone_one_by_one(self):
        for frame, journal in histories(25, 72):
            store = Store.of(frame, journal)
            for many in range(len(journal), 0, -1):
                self.assertIs(store.undo(), True)
                self.assertEqual(state_of(store), state_of(Store.of(frame, journal[:many - 1])))
            self.assertIs(store.undo(), False)

    def test_what_is_none_by_form_or_refused(self):
        wrong = [*WRONG, ("bind", "a"), ("bind", "a", 1, 1), ("bind", "z", 1), ("bind", "b", "1"), ("bind", "a", True),
                 ("do",), ("do", ("off", "z")), ("do", "off"), ("do", ("need", "a", "b")), ("put", 1), ("put", "1", "x"),
                 ("put", 1, "\n"), ("put", 1, None), ("put", 1, "x", 1), ("take",), ("take", 5), ("take", None), ("undo",),
                 ["bind", "b", 1], ("Bind", "b", 1), (ODD, "b", 1), ("do", ("split", "all", "c", "p", "q"))]
        good = (("bind", "a", 1), ("put", 1, "x"))
        for thing in wrong:
            self.refused(BadJournal, {"number": 0}, Store.of, FREE, (thing, thing))
            self.refused(BadJournal, {"number": 2}, Store.of, FREE, (*good, thing))
        # One thing too many in what could be done.
        for thing in (("do", ("move", "all", "hut"), 1), ("take", 1, 1), ("bind", "b", 5, 5), ("put", 1, "x", "x")):
            self.assertEqual(len(Store.of(FREE, (*good, thing[:-1])).journal), 3)
            self.refused(BadJournal, {"number": 2}, Store.of, FREE, (*good, thing))
        # What is refused at its place, though each thing could be done alone.
        self.refused(BadJournal, {"number": 1}, Store.of, FREE, (good[0], good[0]))
        self.refused(BadJournal, {"number": 1}, Store.of, (("a", "b"), (("a", "ahead", "b"),)),
                     (("bind", "a", 1), ("bind", "b", 1)))
        self.refused(BadJournal, {"number": 3}, Store.of, FREE, (*good, ("do", ("off", "all")), ("put", 2, "x")))
        self.refused(BadJournal, {"number": 3}, Store.of, FREE, (*good, ("do", ("off", "all")), ("do", (
            "on", "all", "-", "a", "hut"))))

    def test_what_is_no_journal(self):
        for thing in (*[thing for thing in WRONG if not isinstance(thing, tuple)], [], list(JOURNAL), "bind"):
            self.refused(BadJournal, {"number": None}, Store.of, FREE, thing)
        for thing in WRONG:
            self.assertRaises(BadFrame, Store.of, thing, None)

    def test_400_things_and_401(self):
        many = (("put", 1, "x"),) * 401
        self.refused(BadJournal, {"number": None}, Store.of, FREE, many)
        self.refused(BadJournal, {"number": None}, Store.of, FREE, (None,) * 401)
        store = Store.of(FREE, many[:400])
        # A STORE may have a longer one.
        for at in range(50):
            store.put(1, str(at))
        self.assertEqual((len(store.journal), store[1]), (450, "49"))


class Undo(Refusals):
    def test_each_sort_there_and_back(self):
        store = Store(FREE)
        states = [state_of(store)]
        for thing in JOURNAL:
            self.assertIs(store.does(thing), True)
            states.append(state_of(store))
        for _ in range(2):
            for state in states[-2::-1]:
                self.assertIs(store.undo(), True)
                self.assertEqual(state_of(store), state)
            self.assertIs(store.undo(), False)
            self.assertEqual(state_of(store), states[0])
            for state in states[1:]:
                self.assertIs(store.redo(), True)
                self.assertEqual(state_of(store), state)
            self.assertIs(store.redo(), False)
            self.assertEqual(state_of(store), states[-1])

    def test_back_and_forth_by_chance(self):
        chance = Random(73)
        for frame, journal in histories(30, 74):
            store = Store.of(frame, journal)
            at = len(journal)
            for _ in range(40):
                if chance.random() < 0.5:
                    self.assertIs(store.undo(), at > 0)
                    at = max(0, at - 1)
                else:
                    self.assertIs(store.redo(), at < len(journal))
                    at = min(len(journal), at + 1)
                self.assertEqual(store.journal, journal[:at])
                self.assertTrue(store == Store.of(frame, journal[:at]))

    def test_none_left(self):
        store = Store(FREE)
        self.assertEqual((store.undo(), store.redo()), (False, False))

    def test_behind_something_new_nothing_is_done_again(self):
        news = (lambda store: store.bind("c", 7), lambda store: store.do(("off", "p")), lambda store: store.put(1, "x"),
                lambda store: store.take(5))
        for new in news:
            store = Store.of(FREE, JOURNAL[:6])
            store.undo()
            new(store)
            told = state_of(store)
            self.assertIs(store.redo(), False)
            self.assertEqual(state_of(store), told)
            # What was done instead can be undone, and then done again.
            self.assertIs(store.undo(), True)
            self.assertIs(store.redo(), True)
            self.assertEqual(state_of(store), told)

    def test_what_is_refused_or_asked_leaves_it(self):
        store = Store.of(FREE, JOURNAL[:6])
        store.undo()
        for call, given in ((store.bind, ("a", 1)), (store.do, (("off", "z"),)), (store.put, (1, None)), (store.take, (99,)),
                            (store.bind, ("c", None)), (store.do, (None,))):
            self.assertRaises((CutError, Missing), call, *given)
        store.home(5), store.ask(0, 9), store.stale(0), store.copy(), len(store)
        self.assertIs(store.redo(), True)
        self.assertEqual(store.journal, JOURNAL[:6])

    def test_rows_that_come_behind_what_is_undone(self):
        store = Store.of(FREE, JOURNAL[:7])
        store.put(1, "one")
        store.undo()
        store.undo()
        store.put(30, "thirty")
        store.do(("off", "q"))
        self.assertEqual(store.attic(), {"q": ((25, "y"), (30, "thirty"))})
        store.undo()
        self.assertEqual(store.ask(-9, 99), ((5, "five"), (25, "y"), (30, "thirty")))


class Copies(Refusals):
    def test_both_go_on_by_themselves(self):
        for frame, journal in histories(30, 75):
            store = Store.of(frame, journal)
            for _ in range(5):
                store.undo()
            state = state_of(store)
            other = store.copy()
            self.assertTrue(store == other and store is not other)
            self.assertEqual(state_of(other), state)
            while store.redo():
                pass
            while store.undo():
                pass
            self.assertEqual(state_of(other), state)
            # What can be undone and done again went along.
            while other.redo():
                pass
            self.assertEqual(other.journal, journal)
            self.assertTrue(other == Store.of(frame, journal))
            self.assertEqual(state_of(store), state_of(Store(frame)))

    def test_rows_and_attic_are_not_shared(self):
        store = Store.of(FREE, JOURNAL[:7])
        one, other = store.copy(), store.copy()
        for twin, text in ((one, "one"), (other, "other")):
            twin.undo()
            twin.put(25, text)
            twin.put(1, text)
        self.assertEqual((one[25], other[25], store.attic()), ("one", "other", {"q": ((25, "y"),)}))
        self.assertEqual(store.ask(0, 9), ((5, "five"),))
        one.do(("off", "q"))
        self.assertEqual((len(one), len(other)), (2, 3))

    def test_same_and_not_same(self):
        journal = JOURNAL[:7] + (("put", 6, "six"),)
        store = Store.of(FREE, journal)
        self.assertTrue(store == store.copy() and not store != store.copy())
        others = [
            Store.of((FREE[0], (("a", "upto", "b"),)), journal),
            Store.of(FREE, journal + (("bind", "c", 7),)),
            Store.of(FREE, (("bind", "a", 9),) + journal[1:]),
            Store.of(FREE, journal + (("do", ("move", "p", "hut")),)),
            Store.of(FREE, journal + (("do", ("call", "p", "r")),)),
            Store.of(FREE, journal + (("do", ("split", "p", "a", "p", "r")),)),
            Store.of(FREE, journal + (("put", 6, "seven"),)),
            Store.of(FREE, journal + (("put", 7, "six"),)),
            Store.of(FREE, journal + (("take", 6),)),
            Store.of(FREE, journal[:4] + journal[5:6] + (("put", 26, "x"),) + journal[6:]),
            Store.of(FREE, journal[:4] + journal[6:]),
        ]
        for other in [*others, None, 5, journal, FREE, object()]:
            self.assertFalse(store == other)
            self.assertTrue(store != other)
        # By which way it came to stand so does not matter, nor how many EDITIONs there were.
        there = Store.of(FREE, journal + (("do", ("move", "p", "hut")), ("do", ("move", "p", "home"))))
        self.assertTrue(there == store)
        self.assertNotEqual(there.edition_now, store.edition_now)
        self.assertTrue(Store.of(FREE, journal[:3]) == Store.of(FREE, (journal[1], journal[0], journal[2])))


class Trials(Refusals):
    def ready(self):
        """A store with things to be undone and to be done again."""
        store = Store.of(FREE, JOURNAL)
        for _ in range(3):
            store.undo()
        return store

    def as_it_was(self, store):
        self.assertEqual(state_of(store), state_of(Store.of(FREE, JOURNAL[:7])))
        for many in range(8, 11):
            self.assertIs(store.redo(), True)
            self.assertEqual(state_of(store), state_of(Store.of(FREE, JOURNAL[:many])))
        self.assertIs(store.redo(), False)
        for many in range(9, -1, -1):
            self.assertIs(store.undo(), True)
            self.assertEqual(state_of(store), state_of(Store.of(FREE, JOURNAL[:many])))

    def much(self, store):
        store.put(1, "one")
        store.take(5)
        store.undo()
        store.do(("off", "p"))
        store.do(("on", "q", "b", "+", "home"))
        store.bind("c", 99)
        for _ in range(6):
            store.undo()
        store.redo()

    def test_that_ends(self):
        store = self.ready()
        with store.trial() as one:
            self.assertIs(one, store)
            self.much(store)
            self.assertNotEqual(store.journal, JOURNAL[:7])
        self.as_it_was(store)

    def test_that_raises(self):
        store = self.ready()
        with self.assertRaises(Broken):
            with store.trial():
                self.much(store)
                raise Broken
        self.as_it_was(store)
        store = self.ready()
        with self.assertRaises(Missing):
            with store.trial() as one:
                one.put(1, "x")
                one.take(77)
        self.as_it_was(store)

    def test_within_one_another(self):
        store = self.ready()
        with store.trial():
            store.put(1, "one")
            inner = state_of(store)
            with store.trial():
                self.much(store)
            self.assertEqual(state_of(store), inner)
            self.assertIs(store.undo(), True)
        self.as_it_was(store)

    def test_ahead_of_the_block_counts(self):
        store = self.ready()
        trial = store.trial()
        store.put(1, "one")
        with trial:
            store.put(2, "two")
        self.assertEqual(store.ask(0, 9), ((1, "one"), (5, "five")))

    def test_under(self):
        store = self.ready()
        self.assertEqual(under(store.trial(), lambda one: (one is store, one.put(1, "x"), len(one))), (True, "p", 2))
        self.as_it_was(store)
        store = self.ready()

        def breaks(one):
            self.much(one)
            raise Broken
        self.assertRaises(Broken, under, store.trial(), breaks)
        self.as_it_was(store)

    def test_under_any_manager(self):
        told = []

        class Manager:
            def __enter__(self):
                told.append("enter")
                return 7

            def __exit__(self, kind, value, trace):
                told.append(kind)
                return kind is Broken

        self.assertEqual(under(Manager(), lambda one: told.append(one) or one + 1), 8)
        self.assertEqual(told, ["enter", 7, None])

    def test_rows_of_a_trial_are_gone(self):
        store = store_with(AB, (1, 2))
        with store.trial():
            for key in range(100):
                store.put(key, "x")
        self.assertEqual((len(store), store.ask(-MOST, MOST)), (0, ()))

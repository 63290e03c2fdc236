from random import Random

from namedcuts import errors
from namedcuts.errors import (BadDeed, BadFrame, BadNumber, BadOrder, BadPart, BadText, Bound, Missing, NoPart, Outside,
                              Overlaps, Stopped, Unbound)
from namedcuts.frames import is_world
from namedcuts.layouts import parts_at
from namedcuts.scripts import run_in
from namedcuts.store import Store
from plain_store import PlainStore, mixed_store_deed, values_to_try
from refusals import Refusals
from test_window import WRONG_KEYS, WRONG_TEXTS
from trials import ODD, WRONG, few_frames, frames_to_try

AB = (("a", "b"), (("a", "upto", "b"),))
ABC = (("a", "b", "c"), (("a", "ahead", "b"), ("b", "ahead", "c")))
FREE = (("a", "b", "c"), ())
FIRST = (("all", "-", "+", "home"),)
MOST = 10 ** 18


def store_with(frame=FREE, values=(10, 20, 30), deeds=()):
    """A store of which the names have values, behind some deeds."""
    store = Store(frame)
    for name, value in zip(frame[0], values):
        store.bind(name, value)
    for deed in deeds:
        store.do(deed)
    return store


def state_of(store):
    return (store.base, store.journal, store.edition_now, store.bound_names, store.ranges, store.attic(),
            store.ask(-MOST, MOST), len(store))


class Bind(Refusals):
    def test_by_hand(self):
        store = Store(FREE)
        self.assertEqual((store.base, store.bound_names, store.journal), (FREE, {}, ()))
        self.assertIsNone(store.bind("b", 5))
        store.bind("a", -MOST)
        self.assertEqual(list(store.bound_names.items()), [("a", -MOST), ("b", 5)])
        self.assertEqual(store.journal, (("bind", "b", 5), ("bind", "a", -MOST)))
        self.assertEqual(store.edition_now, 0)
        store.bound_names["c"] = 1
        self.assertNotIn("c", store.bound_names)

    def test_errors_in_their_order(self):
        store = store_with(ABC, (1,))
        for thing in WRONG_KEYS:
            for name in ("a", "b", "z", None):
                self.bad(BadNumber, thing, store.bind, name, thing)
        for thing in (*WRONG, "d", "B"):
            if thing != "a":
                self.bad(Unbound, thing, store.bind, thing, 0)
        self.bad(Bound, "a", store.bind, "a", 1)
        self.refused(Bound, {"given": "a"}, store.bind, "a", 0)
        self.refused(BadOrder, {"one": "a", "other": "b"}, store.bind, "b", 1)
        self.assertEqual(store.journal, (("bind", "a", 1),))
        self.assertEqual(store.bound_names, {"a": 1})
        for thing in WRONG:
            self.assertRaises(BadFrame, Store, thing)

    def test_integers_between_two_names(self):
        # c is greater than a by 2 at least: there is an integer between the two.
        for value in (-5, 0, 10, 11):
            self.refused(BadOrder, {"one": "a", "other": "c"}, store_with(ABC, (10,)).bind, "c", value)
        store_with(ABC, (10,)).bind("c", 12)
        both = Store(ABC)
        both.bind("a", 10)
        both.bind("c", 14)
        for value in (10, 9):
            self.refused(BadOrder, {"one": "a", "other": "b"}, both.bind, "b", value)
        for value in (14, 15):
            self.refused(BadOrder, {"one": "b", "other": "c"}, both.bind, "b", value)
        both.bind("b", 11)

    def test_the_first_two_as_pairs_are_ordered(self):
        frame = (("a", "b", "c", "d"), (("c", "upto", "a"), ("c", "upto", "b"), ("d", "ahead", "c")))
        store = Store(frame)
        store.bind("d", 5)
        store.bind("b", 3 + 4)
        store.bind("a", 3 + 4)
        self.refused(BadOrder, {"one": "a", "other": "c"}, store.bind, "c", 8)
        self.refused(BadOrder, {"one": "c", "other": "d"}, store.bind, "c", 5)
        self.refused(BadOrder, {"one": "a", "other": "d"}, store_with(frame, (5,)).bind, "d", 5)

    def test_against_worlds(self):
        chance = Random(61)
        refused = 0
        for frame in frames_to_try():
            store = Store(frame)
            for name in chance.sample(frame[0], len(frame[0])):
                value = chance.randint(0, 4)
                known = {**store.bound_names, name: value}
                pairs = [(one, other) for one in sorted(known) for other in sorted(known) if one < other
                         and name in (one, other) and not self.is_in_a_world(frame, known, (one, other))]
                if not pairs:
                    store.bind(name, value)
                    self.assertTrue(self.is_in_a_world(frame, store.bound_names, list(store.bound_names)))
                    continue
                refused += 1
                self.refused(BadOrder, {"one": pairs[0][0], "other": pairs[0][1]}, store.bind, name, value)
        self.assertGreater(refused, 40)

    def is_in_a_world(self, frame, known, names):
        """Whether some world has the values of some names."""
        worlds = [()]
        for name in frame[0]:
            numbers = [known[name]] if name in names else list(range(-4, 9))
            worlds = [(*world, number) for world in worlds for number in numbers]
        return any(is_world(frame, world) for world in worlds)


class Deeds(Refusals):
    def test_against_the_document_done_plainly(self):
        chance = Random(62)
        seen = {}
        for frame in few_frames() * 6:
            store, plain = Store(frame), PlainStore(frame)
            values = values_to_try(frame, chance)
            for _ in range(60):
                made = plain.made()
                roll = chance.random()
                if roll < 0.2:
                    self.try_bind(store, plain, values, chance)
                elif roll < 0.45:
                    self.try_row(store, plain, made, chance)
                else:
                    self.try_deed(store, plain, made, mixed_store_deed(frame, made.parts, chance), seen)
                self.stand_alike(store, plain.made(), plain)
        self.assertLessEqual({"Unbound", "part", "name", "meet", "Overlaps", "Outside", "split", "join", "shift", "move",
                              "call", "off", "on", "back"}, set(seen))

    def try_bind(self, store, plain, values, chance):
        name = chance.choice(sorted(values))
        if name not in store.bound_names:
            store.bind(name, values[name])
            plain.journal.append(("bind", name, values[name]))

    def try_row(self, store, plain, made, chance):
        key, text = chance.randint(-8, 14), chance.choice("xyz")
        if chance.random() < 0.25:
            if key in made.rows:
                self.assertEqual(store.take(key), made.rows[key])
                plain.journal.append(("take", key))
            else:
                self.refused(Missing, {"given": key}, store.take, key)
        elif made.home(key) is None:
            self.refused(NoPart, {"given": key}, store.put, key, text)
        else:
            self.assertEqual(store.put(key, text), made.home(key))
            plain.journal.append(("put", key, text))

    def try_deed(self, store, plain, made, deed, seen):
        refusal = made.refusal(deed)
        if refusal is None:
            seen[deed[0]] = True
            seen.update({"back": True} if deed[0] == "on" and deed[1] in made.attic else {})
            self.assertIsNone(store.do(deed))
            plain.journal.append(("do", deed))
            return
        word, thing = refusal
        seen[thing if word == "Stopped" else word] = True
        before = state_of(store)
        self.refused(getattr(errors, word), {"word" if word == "Stopped" else "given": thing}, store.do, deed)
        self.assertEqual(state_of(store), before)

    def stand_alike(self, store, made, plain):
        self.assertEqual(store.journal, tuple(plain.journal))
        self.assertEqual(store.ranges, made.ranges())
        self.assertEqual(store.edition_now, len(made.editions) - 1)
        self.assertEqual(store.bound_names, made.values)
        self.assertEqual(len(store), len(made.rows))
        self.assertEqual(store.ask(-50, 50), tuple(sorted(made.rows.items())))
        self.assertEqual(list(store.attic().items()), list(made.attic_told().items()))
        for key in range(-9, 16):
            self.assertEqual(store.home(key), made.home(key))
            self.assertIs(key in store, key in made.rows)
        for name in made.parts:
            rows = tuple((key, text) for key, text in sorted(made.rows.items()) if made.home(key) == name)
            self.assertEqual(store.rows_in(name), rows)
            self.assertEqual(store.middle_of(name), rows[len(rows) // 2][0] if len(rows) > 1 else None)

    def test_what_is_no_deed(self):
        store = store_with()
        wrong = [*WRONG, (), ("split", "all", "a", "p"), ("split", "all", "d", "p", "q"), ("need", "a", "b"),
                 ("if", "a", "b", (), ()), ("do", "p", ()), ("move", "all", "Hut"), ["off", "all"], ("off",),
                 ("off", "all", "all"), ("call", "all", "abcdefg"), ("on", "p", "-", "+"), ("shift", "p", "q", None),
                 ("split", "all", ("lo", "P"), "p", "q"), ("split", "all", ("least",), "p", "q"), ("cut", "all"),
                 (ODD, "all"), ("off", ODD), ("off", ""), ("split", "all", 5, "p", "q")]
        for thing in wrong:
            self.bad(BadDeed, thing, store.do, thing)
        self.assertEqual(store.edition_now, 0)

    def test_the_first_name_that_has_no_value(self):
        store = Store(FREE)
        store.bind("b", 5)
        for deed, name in ((("split", "none", ("least", "b", ("greatest", "c", "a")), "p", "p"), "c"),
                           (("on", "p", ("least", "b", ("lo", "c")), ("greatest", "a", "c"), "hut"), "a"),
                           (("on", "p", "c", "a", "hut"), "c"), (("shift", "x", "y", "a"), "a")):
            self.refused(Unbound, {"given": name}, store.do, deed)
        # The name of a PART is no NAME.
        self.refused(Stopped, {"word": "part"}, store.do, ("split", "all", ("lo", "a"), "p", "q"))
        store.do(("split", "all", "b", "p", "q"))

    def test_the_word_by_the_first_that_holds(self):
        deeds = [("split", "all", "a", "p", "q"), ("split", "q", "c", "q", "r"), ("off", "q")]
        store = store_with(deeds=deeds)
        self.assertEqual(store.ranges, (("p", "-", 10, "home"), ("r", 30, "+", "home")))
        for deed, word in (
                (("split", "z", "a", "p", "p"), "part"), (("split", "p", ("lo", "z"), "p", "p"), "part"),
                (("split", "p", "a", "s", "s"), "name"), (("split", "p", "a", "p", "r"), "name"),
                (("split", "p", "a", "r", "p"), "name"), (("join", "p", "p", "r"), "part"),
                (("join", "p", "z", "r"), "part"), (("join", "z", "p", "r"), "part"), (("join", "p", "r", "all"), "meet"),
                (("join", "r", "p", "p"), "meet"), (("shift", "p", "p", "a"), "part"), (("shift", "p", "r", "a"), "meet"),
                (("shift", "p", "r", ("hi", "z")), "part"), (("move", "z", "hut"), "part"), (("call", "z", "p"), "part"),
                (("call", "p", "r"), "name"), (("call", "p", "p"), "name"), (("off", "q"), "part"),
                (("on", "p", "-", ("hi", "z"), "hut"), "part"), (("on", "p", "a", "c", "hut"), "name")):
            self.refused(Stopped, {"word": word}, store.do, deed)
        self.refused(Overlaps, {"given": "p"}, store.do, ("on", "s", "-", "+", "hut"))
        self.refused(Overlaps, {"given": "r"}, store.do, ("on", "s", "a", "+", "hut"))
        store.do(("on", "s", "a", "c", "hut"))
        self.refused(Stopped, {"word": "name"}, store.do, ("join", "p", "s", "r"))

    def test_the_least_and_the_greatest(self):
        store = store_with()
        store.do(("split", "all", ("least", "c", ("greatest", "a", "b")), "p", "q"))
        self.assertEqual(store.ranges, (("p", "-", 20, "home"), ("q", 20, "+", "home")))
        store.do(("split", "p", ("greatest", "-", "+"), "p", "e"))
        self.assertEqual(store.ranges[:2], (("e", 20, 20, "home"), ("p", "-", 20, "home")))
        store.do(("split", "q", ("least", ("hi", "p"), ("lo", "q"), "c"), "r", "q"))
        self.assertEqual(store.ranges[2:], (("q", 20, "+", "home"), ("r", 20, 20, "home")))
        store.do(("shift", "p", "q", ("least", "a", "+")))
        self.assertEqual((store.home(9), store.home(10)), ("p", "q"))
        store.do(("join", "p", "q", "q"))
        self.assertEqual(store.ranges[1], ("q", "-", "+", "home"))

    def test_a_17th_part(self):
        store = store_with(deeds=[("split", "all", "a", "all", "p" + chr(97 + at)) for at in range(15)])
        self.assertEqual(len(store.ranges), 16)
        for deed in (("split", "all", "a", "x", "y"), ("split", "all", "a", "all", "x"), ("on", "x", "a", "a", "hut")):
            self.refused(Stopped, {"word": "many"}, store.do, deed)
        self.refused(Stopped, {"word": "name"}, store.do, ("split", "all", "a", "x", "x"))
        self.assertEqual(store.edition_now, 15)
        store.do(("off", "pa"))
        store.do(("on", "x", "a", "a", "hut"))


class Attic(Refusals):
    def test_off_with_rows_and_on_that_brings_them_back(self):
        store = store_with(deeds=[("split", "all", "b", "p", "q")])
        for key in (5, 15, 25, 35):
            store.put(key, str(key))
        store.do(("off", "q"))
        self.assertEqual((len(store), store.attic()), (2, {"q": ((25, "25"), (35, "35"))}))
        self.refused(Missing, {"given": 25}, store.take, 25)
        self.refused(NoPart, {"given": 25}, store.put, 25, "new")
        self.assertNotIn(25, store)
        self.assertEqual(store.ask(0, 99), ((5, "5"), (15, "15")))
        self.assertIsNone(store.home(25))
        self.refused(Outside, {"given": 35}, store.do, ("on", "q", "b", "c", "hut"))
        self.refused(Outside, {"given": 25}, store.do, ("on", "q", "c", "c", "hut"))
        # Another name leaves them where they are.
        store.do(("on", "r", "b", "+", "hut"))
        self.assertEqual((len(store), store.rows_in("r")), (2, ()))
        store.do(("off", "r"))
        store.do(("on", "q", "b", "+", "hut"))
        self.assertEqual((store.attic(), store.rows_in("q")), ({}, ((25, "25"), (35, "35"))))
        self.assertEqual(store[25], "25")

    def test_two_rows_with_one_key(self):
        store = store_with(deeds=[("split", "all", "b", "p", "q")])
        store.put(25, "elder")
        store.put(26, "stays")
        store.do(("off", "q"))
        store.do(("on", "r", "b", "+", "home"))
        store.put(25, "later")
        store.do(("call", "r", "q"))
        store.do(("off", "q"))
        self.assertEqual(store.attic(), {"q": ((25, "later"), (26, "stays"))})
        attic = store.attic()
        attic.clear()
        self.assertEqual(len(store.attic()), 1)
        # Names without rows are not told of.
        store.do(("off", "p"))
        self.assertEqual(list(store.attic()), ["q"])

    def test_names_ascend(self):
        store = store_with(deeds=[("split", "all", "b", "q", "p")])
        store.put(25, "p")
        store.put(5, "q")
        store.do(("off", "q"))
        store.do(("off", "p"))
        self.assertEqual(list(store.attic()), ["p", "q"])


class Rows(Refusals):
    def test_put_and_take(self):
        store = store_with(deeds=[("split", "all", "b", "p", "q")])
        self.assertEqual([store.put(key, "x") for key in (19, 20, -MOST, MOST)], ["p", "q", "p", "q"])
        self.assertEqual((store[19], store.put(19, "new"), store[19], len(store)), ("x", "p", "new", 4))
        self.assertEqual((store.take(19), len(store)), ("new", 3))
        self.refused(Missing, {"given": 19}, store.take, 19)
        for thing in (*WRONG_KEYS, 0, 1, 7):
            self.bad(Missing, thing, store.take, thing)
            self.bad(Missing, thing, store.__getitem__, thing)
            self.assertIs(thing in store, False)
        self.assertIs(20 in store, True)
        for text in ("", " ", "x" * 100):
            store.put(1, text)
            self.assertEqual(store[1], text)
        store.put(0, "zero")
        for thing in (True, False, ODD):
            self.assertIs(thing in store, False)
            self.bad(Missing, thing, store.__getitem__, thing)
            self.bad(Missing, thing, store.take, thing)

    def test_errors_of_put(self):
        store = store_with(deeds=[("off", "all")])
        for thing in WRONG_KEYS:
            self.bad(BadNumber, thing, store.put, thing, None)
        for text in WRONG_TEXTS:
            self.refused(BadText, {"line": -1, "place": -1}, store.put, 1, text)
        self.refused(NoPart, {"given": 1}, store.put, 1, "x" * 100)

    def test_questions(self):
        store = store_with(deeds=[("split", "all", "b", "q", "p"), ("split", "p", "c", "p", "e"), ("off", "p")])
        self.assertEqual([store.home(key) for key in (19, 20, 29, 30)], ["q", None, None, "e"])
        self.assertEqual([store.reached(key) for key in (9, 10, 29, 30)], [(), ("a",), ("a", "b"), ("a", "b", "c")])
        self.assertEqual(store.reads(-5, 50), ("q", "e"))
        for low, high, told in ((20, 30, ()), (19, 30, ("q",)), (20, 31, ("e",)), (30, 30, ()), (31, 5, ()),
                                (-MOST, MOST, ("q", "e"))):
            self.assertEqual(store.reads(low, high), told)
        for call in (store.home, store.reached):
            for thing in WRONG_KEYS:
                self.bad(BadNumber, thing, call, thing)
        for call in (store.ask, store.reads):
            for thing in WRONG_KEYS:
                self.bad(BadNumber, thing, call, thing, None)
                self.bad(BadNumber, thing, call, 0, thing)

    def test_names_without_values_are_not_reached(self):
        store = Store(FREE)
        store.bind("b", 5)
        self.assertEqual((store.reached(4), store.reached(5)), ((), ("b",)))

    def test_reads_in_the_order_of_keys(self):
        # PARTs without KEYs are not read.
        deeds = [("split", "all", "c", "z", "a"), ("split", "z", "a", "y", "m"), ("split", "m", "b", "m", "b"),
                 ("split", "b", "-", "none", "b")]
        store = store_with(deeds=deeds)
        self.assertEqual(store.reads(-100, 100), ("y", "m", "b", "a"))
        self.assertEqual(store.reads(10, 21), ("m", "b"))

    def test_rows_of_parts(self):
        store = store_with(deeds=[("split", "all", "b", "p", "q")])
        for keys, middle in (((), None), ((3,), None), ((3, 1), 3), ((3, 1, 2), 2), ((4, 3, 1, 2), 3)):
            for key in keys:
                store.put(key, "x")
            self.assertEqual(store.middle_of("p"), middle)
            self.assertEqual(store.rows_in("p"), tuple((key, "x") for key in sorted(keys)))
        self.assertEqual((store.rows_in("q"), store.middle_of("q")), ((), None))
        for call in (store.rows_in, store.middle_of):
            for thing in (*WRONG, "all", "r"):
                self.bad(BadPart, thing, call, thing)

    def test_it_is_not_gone_through(self):
        store = store_with()
        store.put(0, "zero")
        self.assertRaises(TypeError, iter, store)
        self.assertRaises(TypeError, list, store)
        self.assertIs(0 in store, True)


class Stale(Refusals):
    def test_against_all_keys(self):
        chance = Random(63)
        for frame in few_frames() * 4:
            store, plain = Store(frame), PlainStore(frame)
            for name, value in values_to_try(frame, chance).items():
                store.bind(name, value)
                plain.journal.append(("bind", name, value))
            for _ in range(12):
                deed = mixed_store_deed(frame, plain.made().parts, chance)
                if plain.made().refusal(deed) is None:
                    store.do(deed)
                    plain.journal.append(("do", deed))
            self.stand_alike(store, plain.made())

    def stand_alike(self, store, made):
        keys = range(-9, 16)
        for edition in range(store.edition_now + 1):
            apart = [key for key in keys if made.home(key) != made.home(key, edition)]
            for key in keys:
                self.assertEqual(store.home_then(edition, key), made.home(key, edition))
            told = store.stale(edition)
            ends = [(-10 ** 9 if low == "-" else low, 10 ** 9 if high == "+" else high) for low, high in told]
            self.assertEqual([key for key in keys if any(low <= key < high for low, high in ends)], apart)
            # As few as can be, each as long as can be: there is a KEY between each two.
            self.assertTrue(all(low < high for low, high in ends))
            self.assertTrue(all(one[1] < other[0] for one, other in zip(ends, ends[1:])))
            self.assertLessEqual(len(told), store.edition_now - edition)

    def test_by_hand(self):
        store = store_with()
        self.assertEqual(store.stale(0), ())
        store.do(("split", "all", "b", "all", "p"))
        self.assertEqual((store.stale(0), store.stale(1)), (((20, "+"),), ()))
        store.do(("move", "all", "hut"))
        self.assertEqual((store.stale(0), store.stale(1), store.stale(2)), (((20, "+"),), (), ()))
        store.do(("split", "all", "a", "q", "all"))
        self.assertEqual((store.stale(0), store.stale(1)), ((("-", 10), (20, "+")), (("-", 10),)))
        store.do(("off", "all"))
        self.assertEqual((store.stale(0), store.stale(3)), ((("-", "+"),), ((10, 20),)))
        self.assertEqual([store.home_then(edition, 15) for edition in range(5)], ["all"] * 4 + [None])
        for call, given in ((store.stale, ()), (store.home_then, (None,))):
            for thing in (*[thing for thing in WRONG_KEYS if isinstance(thing, bool) or not isinstance(thing, int)],
                          -1, 5, 10 ** 39):
                self.bad(BadNumber, thing, call, thing, *given)
        for thing in WRONG_KEYS:
            self.bad(BadNumber, thing, store.home_then, 0, thing)


class Facts(Refusals):
    def test_homes_are_those_of_the_script_in_the_world(self):
        chance = Random(64)
        done = 0
        for frame in few_frames() * 6:
            values = values_to_try(frame, chance)
            store, plain = Store(frame), PlainStore(frame)
            for name, value in values.items():
                store.bind(name, value)
                plain.journal.append(("bind", name, value))
            world = tuple(values[name] for name in frame[0])
            for _ in range(25):
                deed = mixed_store_deed(frame, plain.made().parts, chance)
                if plain.made().refusal(deed) is None and store.edition_now < 30:
                    store.do(deed)
                    plain.journal.append(("do", deed))
            deeds = tuple(thing[1] for thing in store.journal if thing[0] == "do")
            word, many, layout = run_in(frame, (), FIRST, deeds, world)
            self.assertEqual((word, many, layout), ("done", len(deeds), store.ranges))
            done += many
        self.assertGreater(done, 400)

    def test_on_small_frames_by_terms(self):
        store = store_with(AB, (3, 7))
        script = (("split", "all", "b", "p", "q"), ("split", "p", "a", "p", "r"), ("join", "r", "q", "q"))
        for deed in script:
            store.do(deed)
        layout = (("p", "-", "a", "home"), ("q", "a", "+", "home"))
        for key in range(0, 10):
            self.assertEqual((store.home(key),), parts_at(AB, layout, (3, 7), key))

    def test_rows_put_ahead_or_behind_lie_in_the_same_part(self):
        deeds = [("split", "all", "b", "p", "q"), ("split", "p", "a", "r", "s"), ("join", "s", "q", "t"),
                 ("shift", "r", "t", "c"), ("call", "r", "u")]
        ahead, behind = store_with(), store_with(deeds=deeds)
        for key in range(5, 40, 3):
            ahead.put(key, "x")
            behind.put(key, "x")
        for deed in deeds:
            ahead.do(deed)
        self.assertTrue(ahead == behind)
        for name, *_ in ahead.ranges:
            self.assertEqual(ahead.rows_in(name), behind.rows_in(name))

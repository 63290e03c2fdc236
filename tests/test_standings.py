from random import Random

from namedcuts.errors import BadEvent, BadManner, BadPath, BadStanding
from namedcuts.standings import behind, events, first_standings
from namedcuts.weavings import run, word_of
from plain_moving import A, B, C, D, No, Tale, mixed_manner, mixed_path, twin_of, weavings_to_try
from refusals import Refusals
from trials import ODD, WRONG

ACT = ("act",)
MOVE = ((A, (), ()), (B, (), ()))
COMING = (((), (), ()), (A, (), ()))
PLAIN = ("any", "off", "list", "never", ("copy", "point", "drop"))
WORDS = ("good", "twice", "elder", "missed")
NAMES = ("change", "act", "floor", "copies", "shut", "owns", "both", "taken", "latest", "question")


def steps_of(tale):
    """The events that can come behind a tale, with the standing, or the word, behind each."""
    found = {}
    for event in tale.every_event():
        twin = twin_of(tale)
        try:
            twin.do(event)
        except No:
            continue
        found[event] = (twin.word or twin.standing(), twin)
    return found


def all_standings(manner, path, most):
    """Tales of all standings that are come to, one each; None if there are more than so many."""
    tales = [Tale(manner, path, had) for had in ((False, True) if path[0][0] else (False,))]
    found = {tale.standing(): tale for tale in tales}
    while tales:
        for told, twin in steps_of(tales.pop()).values():
            if twin.word is None and told not in found:
                found[told] = twin
                tales.append(twin)
        if len(found) > most:
            return None
    return found


class Standings(Refusals):
    def test_first_standings(self):
        for path, owns in ((MOVE, ((A, 0), (B, 1))), (((B, (), (A,)), (A, (), ())), ((A, 0), (B, 0))), (((A, (C,), ()),), ((A, 0),))):
            seat = path[0][0]
            self.assertEqual(first_standings(PLAIN, path), (
                (0, 0, 0, (), (), owns, False, False, False, ()), (0, 0, 0, ((seat, 2),), (), owns, False, False, True, ())))
        self.assertEqual(first_standings(PLAIN, COMING), ((0, 0, 0, (), (), ((A, 1),), False, False, False, ()),))
        self.assertEqual(first_standings(PLAIN, (((), (A,), ()),)), ((0, 0, 0, (), (), (), False, False, False, ()),))

    def test_all_standings_of_small_paths(self):
        chance = Random(8)
        done = 0
        told_words = set()
        tried = [(("any", "off", "whole", "never", ("copy", "point")), ((A, (), (B,)), (B, (), ())))]
        while done < 40:
            manner, path = tried.pop() if tried else (mixed_manner(chance, most=3), mixed_path(chance, 3))
            found = all_standings(manner, path, 250)
            if found is None:
                continue
            done += 1
            firsts = [Tale(manner, path, had).standing() for had in ((False, True) if path[0][0] else (False,))]
            self.assertEqual(first_standings(manner, path), tuple(sorted(firsts)))
            for standing, tale in found.items():
                steps = steps_of(tale)
                self.assertEqual(events(manner, path, standing), tuple(sorted(
                    event for event, (told, _) in steps.items() if told != standing)))
                for event in tale.every_event():
                    if event not in steps:
                        self.bad(BadEvent, event, behind, manner, path, standing, event)
                        continue
                    told = behind(manner, path, standing, event)
                    self.assertEqual(told, steps[event][0])
                    if isinstance(told, str):
                        told_words.add(told)
                    else:
                        self.assertEqual([type(part) for part in told[6:9]], [bool] * 3)
        self.assertEqual(told_words, set(WORDS))

    def test_the_same_weavings_run(self):
        for manner, path, weaving in weavings_to_try(300, 21):
            standing = [one for one in first_standings(manner, path) if one[8] is weaving[0]][0]
            for event in weaving[1]:
                changes = event in events(manner, path, standing)
                new = behind(manner, path, standing, event)
                self.assertEqual(changes, new != standing)
                standing = new
            word = word_of(manner, path, weaving)
            self.assertEqual(standing if standing in WORDS else None, word)
            self.assertEqual(len(run(manner, path, weaving)), len(weaving[1]))

    def parts(self, standing, **parts):
        found = dict(zip(NAMES, standing))
        self.assertEqual({name: found[name] for name in parts}, parts)

    def test_some_events(self):
        none, had = first_standings(PLAIN, MOVE)
        for standing in (none, had):
            self.assertEqual(events(PLAIN, MOVE, standing), (ACT, ("ask", 0), ("erase", 0), ("write", 0)))
        # An erasing that finds nothing changes something too: S has taken it.
        self.parts(behind(PLAIN, MOVE, none, ("erase", 0)), taken=True, copies=(), latest=False)
        taken = behind(PLAIN, MOVE, had, ("write", 0))
        self.parts(taken, taken=True, copies=((A, 2),))
        self.assertEqual(events(PLAIN, MOVE, taken), (ACT, ("ask", 0), ("erase", 0)))
        self.assertEqual(behind(PLAIN, MOVE, taken, ("write", 0)), taken)
        self.bad(BadEvent, event := ("write", 1), behind, PLAIN, MOVE, taken, event)

    def test_events_in_their_order(self):
        path = ((A, (C,), (D,)), (B, (), ()))
        manner = ("any", "off", "whole", "never", ("copy", "point"))
        standing = first_standings(manner, path)[1]
        for event in (ACT, ACT, ("ask", 0)):
            standing = behind(manner, path, standing, event)
        self.assertEqual(events(manner, path, standing), (("erase", 0), ("erase", 1), ("read", A)))
        # A SITE without a COPY is read, and nothing changes by it.
        self.assertEqual(behind(manner, path, standing, ("read", C)), standing)
        self.assertNotIn(("read", C), events(manner, path, standing))
        self.assertIn(("read", A), events(manner, path, standing))

    def test_at_rest(self):
        path = ((A, (), ()),)
        for standing in first_standings(PLAIN, path):
            self.bad(BadEvent, ACT, behind, PLAIN, path, standing, ACT)
            self.assertNotIn(ACT, events(PLAIN, path, standing))
            self.parts(behind(PLAIN, path, standing, ("write", 0)), taken=False, change=0, act=0, copies=((A, 2),))

    def test_marks(self):
        standing = first_standings(PLAIN, MOVE)[1]
        for event, copies, latest in ((ACT, ((A, 2), (B, 2)), True), (("write", 0), ((A, 2), (B, 1)), True), (("erase", 0), ((B, 1),), False),
                                      (("write", 0), ((A, 2), (B, 1)), True), (ACT, ((A, 2), (B, 1)), True), (("ask", 1), ((A, 2), (B, 1)), False),
                                      (("write", 1), ((A, 2), (B, 2)), False), (("erase", 0), ((B, 2),), False), (ACT, ((B, 2),), False)):
            standing = behind(PLAIN, MOVE, standing, event)
            self.parts(standing, copies=copies, latest=latest)
        self.parts(standing, change=1, act=0, question=(1, False, (), True))
        standing = behind(PLAIN, MOVE, standing, ("read", B))
        self.parts(standing, question=(1, True, ((B, 2),), True))
        self.assertEqual(behind(PLAIN, MOVE, standing, ("end",)), "good")

    def test_events_of_anything(self):
        standing = first_standings(PLAIN, MOVE)[1]
        for event in WRONG + (["act"], "act", ("Act",), ("act", 0), ("write",), ("write", None), ("write", True), ("write", False), ("write", 0, 0),
                              ("ask",), ("ask", 1), ("ask", False), ("read", A), ("read", ()), ("look",), ("pass",), ("end",), (ODD,), (ODD, 0),
                              ("write", ODD), ("erase", -1), ("erase", 10 ** 39), ("read", ODD), ("read", (ODD, ODD)), ("write", "0"), ("ask", [])):
            self.bad(BadEvent, event, behind, PLAIN, MOVE, standing, event)

    def test_errors_in_order(self):
        right = (PLAIN, MOVE, first_standings(PLAIN, MOVE)[0])
        wrong = ((0, None, BadManner), (1, None, BadPath), (2, None, BadStanding))
        self.in_order(first_standings, right[:2], wrong[:2])
        self.in_order(events, right, wrong)
        self.in_order(behind, (*right, ACT), wrong + ((3, None, BadEvent),))
        for call, given in ((first_standings, ()), (events, (None,)), (behind, (None, None))):
            self.refused(BadManner, {"place": (4,)}, call, (*PLAIN[:4], ()), None, *given)
            self.refused(BadPath, {"place": (1,)}, call, PLAIN, (MOVE[0], None), *given)


class Forms(Refusals):
    """What is a standing by its form."""

    RIGHT = (0, 2, 1, ((A, 1), (B, 2)), (A,), ((A, 0), (B, 1)), False, True, True, ())
    PATH = ((A, (C,), ()), (B, (A,), (D,)))

    def is_one(self, standing, manner=PLAIN, path=PATH):
        self.assertIs(type(events(manner, path, standing)), tuple)

    def no(self, standing, manner=PLAIN, path=PATH):
        self.bad(BadStanding, standing, events, manner, path, standing)
        self.bad(BadStanding, standing, behind, manner, path, standing, ACT)

    def with_part(self, name, thing):
        at = NAMES.index(name)
        return (*self.RIGHT[:at], thing, *self.RIGHT[at + 1:])

    def test_right_ones(self):
        self.is_one(self.RIGHT)
        for name, things in (("change", (0,)), ("act", (2,)), ("floor", (0, 1)), ("copies", ((), ((C, 1),), ((A, 2), (B, 1), (C, 1), (D, 2)))),
                             ("shut", ((), (A, B), (C, D), (A, B, C, D))), ("owns", (((A, 1), (B, 0)), ((A, 0), (B, 0)))),
                             ("both", (True, False)), ("taken", (True, False)), ("latest", (True, False)),
                             ("question", ((), (-1, False, (), True), (0, True, ((A, 1),), False), (1, False, ((A, 2), (B, 2), (C, 1)), True)))):
            for thing in things:
                self.is_one(self.with_part(name, thing))

    def test_times(self):
        # ACT is 0 at rest; FLOOR is at most PRESENT, which is one more behind "point".
        for change, act, floor, is_so in ((0, 0, 0, True), (0, 1, 0, True), (0, 1, 1, False), (0, 2, 1, True), (0, 2, 2, False), (0, 3, 0, False),
                                          (0, -1, 0, False), (1, 0, 0, True), (1, 0, 1, True), (1, 0, 2, False), (1, 1, 0, False), (2, 0, 0, False),
                                          (-1, 0, 0, False), (-1, 2, 0, False), (0, 0, -1, False),
                                          (0, 0, 1, False)):
            standing = (change, act, floor, *self.RIGHT[3:])
            (self.is_one if is_so else self.no)(standing)
        for at in range(3):
            for thing in WRONG + (True, False, None, "0", ODD):
                if isinstance(thing, int) and not isinstance(thing, bool) and thing in (0, 1):
                    continue
                self.no((*self.RIGHT[:at], thing, *self.RIGHT[at + 1:]))
        last = ("any", "off", "list", "never", ("point",))
        self.is_one((0, 0, 0, *self.RIGHT[3:]), last)
        self.no((0, 1, 0, *self.RIGHT[3:]), last)

    def test_wrong_parts(self):
        other = ("e", "x")
        marked = WRONG + (((A, 1), (A, 2)), ((B, 1), (A, 1)), ((A, 1), (A, 1)), ((A, 0),), ((A, 3),), ((A, True),), ((A, None),), ((A,),), ((A, 1, 1),),
                          [(A, 1)], ([A, 1],), ((other, 1),), (((), 1),), ((list(A), 1),), (("a", 1),), ((ODD, 1),), ((A, ODD),), (ODD,), (((ODD, ODD), 1),))
        for thing in marked:
            if not (isinstance(thing, tuple) and thing == ()):
                self.no(self.with_part("copies", thing))
                self.no(self.with_part("question", (0, True, thing, False)))
        for thing in WRONG + ((B, A), (A, A), (other,), ((),), A, [A], (list(A),), (A, ODD), ((ODD, "x"),), ("a",)):
            if not (isinstance(thing, tuple) and thing == ()):
                self.no(self.with_part("shut", thing))
        for thing in WRONG + (((A, 0),), ((A, 0), (B, 2)), ((A, -1), (B, 0)), ((B, 0), (A, 0)), ((A, 0), (B, 0), (C, 0)), ((A, 0), (C, 0)), (),
                              ((A, 0), (B, True)), ((A, 0), (B, None)), [(A, 0), (B, 0)], ((A, 0), (A, 0)), ((A, 0), (B, ODD)), ((A, 0), ODD)):
            self.no(self.with_part("owns", thing))
        for name in ("both", "taken", "latest"):
            for thing in WRONG + (0, 1, None, "True", ODD):
                if not isinstance(thing, bool):
                    self.no(self.with_part(name, thing))
        for thing in WRONG + ((-2, False, (), True), (2, False, (), True), (True, False, (), True), (0, 0, (), True), (0, False, (), 1), (0, False, ()),
                              (0, False, (), True, ()), [0, False, (), True], (None, False, (), True), (0, None, (), True), (ODD, False, (), True),
                              (0, ODD, (), True), (0, False, (), ODD), (0, False, [], True), (0, False, None, True)):
            if not (isinstance(thing, tuple) and thing == ()):
                self.no(self.with_part("question", thing))

    def test_no_tuple_of_ten(self):
        for thing in WRONG + (self.RIGHT[:9], self.RIGHT + ((),), self.RIGHT[:8] + self.RIGHT[9:], self.RIGHT[:8] + (True,) + self.RIGHT[8:], list(self.RIGHT), ("good",), "good", (None,) * 10, (ODD,) * 10, ((),) * 10):
            self.no(thing)

    def test_owns_tell_of_seats_alone(self):
        self.is_one((0, 0, 0, (), (), ((A, 0),), False, False, False, ()), path=((A, (C,), ()),))
        self.no((0, 0, 0, (), (), ((A, 0), (C, 0)), False, False, False, ()), path=((A, (C,), ()),))
        self.is_one((0, 0, 0, (), (), (), False, False, False, ()), path=(((), (C,), ()),))

    def test_what_has_the_form_alone_is_gone_on_from(self):
        standing = self.with_part("question", (1, False, ((C, 1),), False))
        new = behind(PLAIN, self.PATH, standing, ("read", B))
        self.assertEqual(new, self.with_part("question", (1, True, ((B, 2), (C, 1)), False)))
        self.assertEqual(behind(PLAIN, self.PATH, new, ("end",)), "twice")
        # Where T is no SITE nothing is done to it.
        away = ((A, (), ()), ((), (A,), ()))
        standing = (0, 1, 0, (), (), ((A, 0),), True, False, False, ())
        self.assertEqual(behind(PLAIN, away, standing, ("write", 0)), (0, 1, 0, ((A, 2),), (), ((A, 0),), True, True, True, ()))

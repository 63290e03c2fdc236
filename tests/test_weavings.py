from random import Random

from namedcuts.errors import BadManner, BadPath, BadWeaving
from namedcuts.standings import behind, first_standings
from namedcuts.weavings import run, word_of
from plain_moving import A, B, C, Tale, mixed_manner, mixed_path, told_plainly, weavings_to_try
from refusals import Refusals
from trials import ODD, WRONG

ACT, LOOK, PASS, END, ASK = ("act",), ("look",), ("pass",), ("end",), ("ask",)
MOVE = ((A, (), ()), (B, (), ()))
STAY = ((A, (), ()), (A, (), ()))
AWAY = ((A, (), ()), ((), (), (A,)))
COMING = (((), (), ()), (A, (), ()))
THREE = ((A, (), (B,)), (B, (A,), ()), (C, (), ()))


def manner(acts, door="any", lead="off", how="list", again="never"):
    return (door, lead, how, again, tuple(acts.split()))


def write(edition=0):
    return ("write", edition)


def erase(edition=0):
    return ("erase", edition)


def ask(edition=0):
    return ("ask", edition)


def read(site=A):
    return ("read", site)


class Acts(Refusals):
    """Each act, by what is told behind it and by the standing."""

    def told(self, acts, path, had, events, told, **words):
        found = run(manner(acts, **words), path, (had, tuple(events)))
        self.assertEqual(found, tuple(told))
        self.assertEqual([type(one) for one in found], [type(one) for one in told])

    def stands(self, acts, path, had, events, **parts):
        """That the standing behind some events has these parts."""
        names = ("change", "act", "floor", "copies", "shut", "owns", "both", "taken", "latest", "question")
        mine = manner(acts)
        standing = first_standings(mine, path)[-1 if had else 0]
        for event in events:
            standing = behind(mine, path, standing, event)
        found = dict(zip(names, standing))
        self.assertEqual({name: found[name] for name in parts}, parts)

    def test_seal_hold_free(self):
        self.told("seal point", MOVE, True, (write(), ACT, write(), erase()), (("taken", A), "seal", ("refused",), ("refused",)))
        self.told("seal point free", MOVE, True, (ACT, ACT, write(1), write(0), ACT, write(0)),
                  ("seal", "point", ("taken", B), ("refused",), "free", ("taken", A)))
        self.told("hold point free", MOVE, True, (ACT, write(0), ACT, write(1), write(0), ACT, write(1)),
                  ("hold", ("taken", A), "point", ("refused",), ("taken", A), "free", ("taken", B)))
        # What is sealed in one change is so in the next ones, too.
        self.told("seal point", THREE, True, (ACT, ACT, write(0), write(1), ACT, write(1)),
                  ("seal", "point", ("refused",), ("taken", B), "seal", ("refused",)))
        self.stands("seal hold seal point", MOVE, True, (ACT, ACT, ACT), shut=(A, B))
        self.stands("hold seal free point", MOVE, True, (ACT, ACT), shut=(A, B))
        self.stands("hold seal free point", MOVE, True, (ACT, ACT, ACT), shut=())
        for path, shut in ((AWAY, (A,)), (COMING, (A,)), (STAY, ())):
            self.stands("seal hold point free", path, False, (ACT, ACT), shut=shut)
            self.stands("seal hold point free", path, False, (ACT, ACT, ACT, ACT), shut=())

    def test_copy(self):
        self.told("copy point", MOVE, True, (write(), ACT, ACT, ask(1), read(B)), (("taken", A), "copy", "point", "begun", 1))
        self.told("copy point", MOVE, True, (ACT, write(), ACT, ask(1), read(B)), ("copy", ("taken", A), "point", "begun", 0))
        self.told("copy point", MOVE, False, (ACT, ACT, ask(1), read(B)), ("copy", "point", "begun", -1))
        # It gives T what S has, whatever T had; if S has no COPY, T keeps its own.
        again = ((A, (), ()), (B, (), ()), (A, (), ()))
        self.stands("copy point", again, True, (ACT, write(), ACT), copies=((A, 2), (B, 1)))
        self.stands("copy point", again, True, (ACT, write(), ACT, ACT), copies=((A, 1), (B, 1)))
        self.stands("copy point", again, True, (ACT, ACT, erase(1), ACT), copies=((A, 1),), latest=False)
        self.stands("copy point", STAY, True, (ACT,), copies=((A, 2),), act=1)
        for path in (AWAY, COMING):
            self.stands("copy point", path, path == AWAY, (ACT,), copies=((A, 2),) if path == AWAY else ())

    def test_catch(self):
        for acts, events, copies in (("catch point", (ACT,), ((A, 2),)), ("catch point", (write(), ACT), ((A, 2), (B, 2))),
                                     ("catch point", (erase(), ACT), ()), ("copy catch point", (write(), ACT, ACT), ((A, 2), (B, 2))),
                                     ("copy catch point", (ACT, write(), ACT), ((A, 2), (B, 2))),
                                     ("copy catch point", (ACT, erase(), ACT), ()), ("copy catch point", (ACT, ACT), ((A, 2), (B, 2))),
                                     ("catch catch point", (write(), ACT, erase(), ACT), ()),
                                     ("catch catch point", (write(), ACT, write(), ACT), ((A, 2), (B, 2))),
                                     ("drop catch point", (ACT, ACT), ()), ("drop catch point", (write(), ACT, ACT), ()),
                                     ("catch drop catch point", (write(), ACT, ACT, ACT), ((B, 2),))):
            self.stands(acts, MOVE, True, events, copies=copies, taken=False)
        # A "copy" counts also if S has no COPY: what was taken ahead of it is not caught.
        self.stands("copy catch point", MOVE, True, (erase(), ACT), copies=(), taken=False)
        again = ((A, (), ()), (B, (), ()), (A, (), ()))
        self.stands("copy catch point", again, True, (ACT, ACT, ACT, erase(1), ACT, ACT), copies=((A, 1),))
        self.stands("catch point copy", again, True, (write(), ACT, ACT, ACT, erase(1), ACT), copies=(), taken=False)
        self.stands("both point", MOVE, True, (write(),), taken=True)
        self.stands("both point", MOVE, True, (write(), ACT, ACT), taken=False)
        # Where T is no SITE nothing is copied or caught: what S took stays taken.
        self.stands("copy catch point", AWAY, True, (write(), ACT, ACT), taken=True, copies=((A, 2),))
        self.stands("copy catch point", COMING, False, (ACT, ACT, write()), taken=False)
        self.stands("copy catch point", STAY, True, (write(),), taken=False)
        # What another SITE takes is not what S takes.
        self.stands("point copy", MOVE, True, (ACT, write(1)), taken=False)
        self.stands("point copy", MOVE, True, (ACT, write(0)), taken=True)

    def test_both(self):
        self.stands("both point", MOVE, True, (ACT,), both=True, copies=((A, 2),))
        self.stands("both point", MOVE, True, (ACT, write()), both=True, copies=((A, 2), (B, 2)), taken=True)
        self.stands("both hold point", MOVE, True, (ACT, ACT, write()), copies=((A, 2), (B, 2)), shut=(B,))
        self.stands("copy both point", MOVE, True, (ACT, ACT, erase()), copies=(), latest=False)
        # Up to the end of the change, also behind "point"; what T takes is not done to S.
        self.stands("both point drop", MOVE, True, (ACT, ACT, write(0)), both=True, copies=((A, 2), (B, 2)))
        self.stands("both point drop", MOVE, True, (ACT, ACT, write(1)), both=True, copies=((A, 1), (B, 2)))
        self.stands("both point", MOVE, True, (ACT, ACT, write(0)), both=False, copies=((A, 2),), change=1, act=0)
        for path in (AWAY, COMING, STAY):
            self.stands("both point", path, False, (ACT, write()), both=False)

    def test_tell(self):
        for path, first, owns in ((MOVE, ((A, 0), (B, 1)), ((A, 1), (B, 1))), (STAY, ((A, 0),), ((A, 0),)), (AWAY, ((A, 0),), ((A, 1),)),
                                  (COMING, ((A, 1),), ((A, 1),)), (THREE, ((A, 0), (B, 0), (C, 2)), ((A, 1), (B, 1), (C, 2)))):
            self.stands("tell point", path, False, (), owns=first)
            self.stands("tell point", path, False, (ACT,), owns=owns)
        # By its OWN EDITION a SITE that is told knows that it is no SEAT any more.
        self.told("tell point", MOVE, True, (write(), ACT, write(), ACT, write(0), write(1)),
                  (("taken", A), "tell", ("refused",), "point", ("refused",), ("taken", B)), door="own")

    def test_point(self):
        self.stands("point drop", MOVE, True, (ACT,), copies=((A, 2),), latest=True, change=0, act=1)
        # What is put on has no rows, also where a COPY was left; what is taken off is nothing from now on.
        self.stands("point drop", AWAY, True, (ACT,), copies=((A, 1),), latest=False)
        self.stands("point", COMING, False, (ACT,), copies=(), latest=False)
        back = ((A, (), ()), ((), (), ()), (A, (), ()))
        self.stands("point", back, True, (ACT,), copies=((A, 1),), latest=False)
        self.stands("point", back, True, (ACT, ACT), copies=(), latest=False)
        self.told("point", back, True, (ask(0), ACT, ACT, read(A), END), ("begun", "point", "point", -1, "good"))
        self.stands("point", back, True, (ask(0), ACT), copies=((A, 2),), latest=False, question=(0, False, (), True))
        other = ((A, (), ()), ((), (), ()), (B, (), ()))
        self.stands("point", other, True, (ACT, ACT), copies=((A, 1),))
        self.stands("point", STAY, True, (ACT,), copies=((A, 2),), latest=True, change=1)
        none = (((), (), ()), ((), (), ()))
        self.stands("point", none, False, (ACT,), change=1, latest=False)
        # A VERSION that is put behind it has the next number.
        self.told("point", back, True, (write(), ACT, ACT, write(2), ask(2), read(A), END),
                  (("taken", A), "point", "point", ("taken", A), "begun", 2, "good"))

    def test_drain(self):
        for how, events, can in (("list", (ask(0), ACT), False), ("list", (ask(0), ACT, read()), False), ("list", (ACT, ask(1)), True),
                                 ("list", (ask(0), ACT, read(), END), None), ("list", (ACT,), True), ("whole", (ask(0), ACT, read()), False),
                                 ("next", (ASK, ACT), True), ("next", (ASK, LOOK, ACT), False), ("next", (ASK, LOOK, ACT, read()), True),
                                 ("next", (ASK, ACT, LOOK), True)):
            mine = manner("point drain drop", how=how)
            if can is True:
                self.assertEqual(run(mine, MOVE, (True, (*events, ACT)))[-1], "drain")
            else:
                self.refused(BadWeaving, {"number": len(events)}, run, mine, MOVE, (True, (*events, ACT)))
        self.told("point drain drop", AWAY, True, (ASK, ACT, LOOK, PASS, ACT, END), ("begun", "point", (), "passed", "drain", "good"), how="next")
        # Ahead of "point" only questions from ahead of the change are elder; FLOOR is what PRESENT is then.
        self.stands("drain point", MOVE, True, (ask(0), ACT), floor=0, act=1)
        self.stands("drain point", THREE, True, (ACT, ACT, ACT), floor=1, change=1)
        self.refused(BadWeaving, {"number": 3}, run, manner("drain point"), THREE, (True, (ACT, ask(0), ACT, ACT)))
        self.stands("point drain", STAY, True, (ACT, ACT), floor=1)
        self.refused(BadWeaving, {"number": 2}, run, manner("point drain"), STAY, (True, (ask(0), ACT, ACT)))
        for word in ("write", "erase", "ask"):
            self.refused(BadWeaving, {"number": 2}, run, manner("point drain"), MOVE, (True, (ACT, ACT, (word, 0))))
            self.refused(BadWeaving, {"number": 1}, run, manner("point drain"), MOVE, (True, (ACT, (word, 2))))
            self.assertEqual(len(run(manner("point drain"), MOVE, (True, (ACT, (word, 0))))), 2)

    def test_drop(self):
        self.stands("drop point", MOVE, True, (ACT,), copies=(), latest=True)
        self.stands("copy drop point", MOVE, True, (ACT, ACT), copies=((B, 2),))
        self.stands("drop point", AWAY, True, (ACT,), copies=(), latest=True)
        self.stands("drop point", STAY, True, (ACT,), copies=((A, 2),))
        self.stands("drop point", COMING, False, (ACT,), copies=())


class Writers(Refusals):
    def told(self, mine, path, events, told):
        self.assertEqual(run(mine, path, (False, tuple(events))), tuple(told))

    def test_doors_and_leads(self):
        # Behind the change of A to B a writer still goes by the elder map.
        for door, lead, told in (("any", "off", ("taken", A)), ("any", "on", ("taken", A)), ("now", "off", ("refused",)), ("now", "on", ("led", B)),
                                 ("own", "off", ("taken", A)), ("own", "on", ("taken", A))):
            self.told(manner("point", door, lead), MOVE, (ACT, write(0), write(1)), ("point", told, ("taken", B)))
        for lead, told in (("off", ("refused",)), ("on", ("led", B))):
            self.told(manner("point tell", "own", lead), MOVE, (ACT, ACT, write(0), erase(0)), ("point", "tell", told, told))
        # Told ahead of "point", it leads on to the SEAT of PRESENT: A itself, which does not take it.
        self.told(manner("tell point", "own", "on"), MOVE, (ACT, write(0)), ("tell", ("refused",)))

    def test_led_and_refused(self):
        self.told(manner("hold point tell", "own", "on"), MOVE, (ACT, ACT, ACT, write(0)), ("hold", "point", "tell", ("refused",)))
        self.told(manner("point", "now", "on"), AWAY, (ACT, write(0), write(1)), ("point", ("refused",), ("refused",)))
        # One that comes where nothing is taken is refused, and not led on.
        self.told(manner("seal point", "now", "on"), MOVE, (ACT, ACT, write(0)), ("seal", "point", ("refused",)))
        # Led on to a SITE that is not yet the SEAT of its OWN EDITION.
        path = ((A, (), (B,)), (B, (), ()), (B, (), ()))
        self.told(manner("point", "own", "on"), path, (ACT, write(1)), ("point", ("refused",)))
        self.told(manner("point tell", "own", "on"), path, (ACT, ACT, write(1), write(0)), ("point", "tell", ("taken", B), ("led", B)))

    def test_each_edition_from_floor_to_present(self):
        mine = manner("point drain")
        for number, events in ((0, ()), (1, (ACT,)), (1, (ACT, ACT)), (2, (ACT, ACT, ACT)), (2, (ACT,) * 4)):
            floor = number if len(events) % 2 == 0 else number - 1
            for word in ("write", "erase"):
                for edition in range(-2, 5):
                    weaving = (True, (*events, (word, edition)))
                    if floor <= edition <= number:
                        self.assertEqual(run(mine, THREE, weaving)[-1], ("taken", (A, B, C)[edition]))
                    else:
                        self.refused(BadWeaving, {"number": len(events)}, run, mine, THREE, weaving)

    def test_erasing(self):
        self.told(manner("point"), MOVE, (write(), erase(), ask(0), read(), END), (("taken", A), ("taken", A), "begun", -1, "good"))
        self.told(manner("point"), MOVE, (write(), erase(), write(), ask(0), read(), END),
                  (("taken", A), ("taken", A), ("taken", A), "begun", 3, "good"))


class Questions(Refusals):
    def told(self, mine, path, had, events, told):
        self.assertEqual(run(mine, path, (had, tuple(events))), tuple(told))
        word = told[-1] if told[-1] in ("good", "twice", "elder", "missed") else None
        self.assertEqual(word_of(mine, path, (had, tuple(events))), word)

    def no(self, mine, path, had, events):
        self.refused(BadWeaving, {"number": len(events) - 1}, run, mine, path, (had, tuple(events)))
        self.refused(BadWeaving, {"number": len(events) - 1}, word_of, mine, path, (had, tuple(events)))

    def test_list(self):
        mine = manner("point")
        self.told(mine, MOVE, True, (ask(0), read(), END), ("begun", 0, "good"))
        self.told(mine, MOVE, True, (ask(0), ACT, read()), ("begun", "point", 0))
        for events in ((ASK,), (ask(1),), (read(),), (END,), (ask(0), END), (ask(0), read(B)), (ask(0), read(), read()), (ask(0), LOOK),
                       (ask(0), PASS), (ask(0), ask(0)), (ask(0), read(), END, ask(0)), (ask(0), read(), END, write()),
                       (ask(0), read(), END, ACT), (ask(0), read(), END, END), (PASS,), (LOOK,)):
            self.no(mine, MOVE, True, events)
        self.told(mine, COMING, False, (ask(0), PASS, END), ("begun", "passed", "good"))
        for events in ((ask(0), END), (ask(0), read()), (ask(0), PASS, PASS), (ask(0), ("read", ()))):
            self.no(mine, COMING, False, events)
        # With "list" no other SITEs are read.
        for events in ((ask(0), read(B)), (ask(0), read(A), read(B))):
            self.no(mine, THREE, True, events)

    def test_next(self):
        mine = manner("copy point", how="next")
        self.told(mine, MOVE, True, (ASK, LOOK, read(A), END), ("begun", A, 0, "good"))
        self.told(mine, MOVE, True, (ASK, ACT, ACT, LOOK, read(B), END), ("begun", "copy", "point", B, 0, "good"))
        self.told(manner("point", how="next"), AWAY, True, (ASK, ACT, LOOK, PASS, END), ("begun", "point", (), "passed", "good"))
        self.told(mine, MOVE, True, (ASK, LOOK, ACT, ACT, read(A), END), ("begun", A, "copy", "point", 0, "good"))
        for events in ((ask(0),), (LOOK,), (ASK, read(A)), (ASK, END), (ASK, PASS), (ASK, LOOK, LOOK), (ASK, LOOK, read(B)), (ASK, LOOK, END),
                       (ASK, ASK), (ASK, LOOK, read(A), LOOK), (ASK, LOOK, read(A), read(A))):
            self.no(mine, MOVE, True, events)

    def test_whole(self):
        path = ((B, (A,), (C,)), (A, (B,), (C,)), (C, (), (A, B)))
        mine = manner("copy point", how="whole")
        self.told(mine, path, True, (ask(0), read(B), END), ("begun", 0, "good"))
        # BELOW ahead of SEAT, ABOVE behind it; what had none may be read again.
        self.told(mine, path, True, (ask(0), read(A), read(A), read(B), read(C), read(C), END), ("begun", -1, -1, 0, -1, -1, "good"))
        self.told(mine, path, True, (ACT, ask(0), read(A), read(B), END), ("copy", "begun", 0, 0, "twice"))
        self.told(mine, path, True, (ask(0), read(A), ACT, read(A), read(B), END), ("begun", -1, "copy", 0, 0, "twice"))
        for events in ((ACT, ask(0), read(A), read(A)), (ask(0), read(C)), (ask(0), read(B), read(A)), (ask(0), read(B), read(B)),
                       (ask(0), read(A), END), (ask(0), read(("d", "x"))), (ask(0), PASS)):
            self.no(mine, path, True, events)
        again = (ACT, ACT, ACT, ask(0), read(B), read(C))
        self.told(mine, path, True, (*again, END), ("copy", "point", "copy", "begun", 0, 0, "twice"))
        self.no(mine, path, True, (*again, read(C)))
        off = (((), (A,), (B,)), (A, (), (B,)))
        self.told(manner("point", how="whole"), off, False, (ask(0), read(A), PASS, read(B), END), ("begun", -1, "passed", -1, "good"))
        self.no(manner("point", how="whole"), off, False, (ask(0), read(B)))
        self.no(manner("point", how="whole"), off, False, (ask(0), PASS, read(A)))

    def test_back(self):
        for how, events, told in (("list", (ask(0), ACT, read(A), ACT, read(A), read(A)), ("begun", "tell", "back", "point", "back")),
                                  ("next", (ASK, LOOK, ACT, read(A), LOOK, ACT, read(A), LOOK, read(B), END),
                                   ("begun", A, "tell", "back", A, "point", "back", B, -1, "good"))):
            mine = manner("tell point", how=how, again="own")
            if how == "list":
                # Back with nothing else begun it goes by PRESENT: by B, once that is so.
                self.told(mine, MOVE, False, events[:5], ("begun", "tell", "back", "point", "back"))
                self.told(mine, MOVE, False, (*events[:5], read(B), END), ("begun", "tell", "back", "point", "back", -1, "good"))
                self.no(mine, MOVE, False, events)
            else:
                self.told(mine, MOVE, False, events, told)
        # No other SITE sends it back, and nothing that it saw is kept.
        path = ((B, (A,), ()), (A, (), (B,)))
        mine = manner("tell copy point", how="whole", again="own")
        self.told(mine, path, True, (ask(0), ACT, ACT, read(A), read(B), read(A), ACT, read(B), read(A), read(B), END),
                  ("begun", "tell", "copy", 0, "back", 0, "point", "back", 0, 0, "twice"))

    def test_anew(self):
        mine = manner("copy point drop", again="edition")
        self.told(mine, MOVE, True, (ask(0), read(A), END), ("begun", 0, "good"))
        self.told(mine, MOVE, True, (ask(0), ACT, ACT, read(A), END, read(B), END), ("begun", "copy", "point", 0, "anew", 0, "good"))
        self.told(mine, MOVE, True, (ask(0), ACT, ACT, ACT, read(A), END, read(B), END),
                  ("begun", "copy", "point", "drop", -1, "anew", 0, "good"))
        self.no(mine, MOVE, True, (ask(0), ACT, ACT, read(A), END, read(A)))
        self.told(manner("point", how="next", again="edition"), MOVE, True, (ASK, LOOK, ACT, read(A), END, LOOK, read(B), END),
                  ("begun", A, "point", 0, "anew", B, -1, "missed"))
        self.no(manner("point", how="next", again="edition"), MOVE, True, (ASK, LOOK, ACT, read(A), END, read(B)))

    def test_endings(self):
        mine = manner("copy point")
        self.told(mine, MOVE, True, (ask(0), ACT, ACT, read(A), END), ("begun", "copy", "point", 0, "good"))
        # What was the LATEST at some moment since the question began is good, elder ones are not.
        self.told(mine, MOVE, True, (ACT, ACT, ask(1), write(0), read(B), END), ("copy", "point", "begun", ("taken", A), 0, "good"))
        self.told(mine, MOVE, True, (ACT, ACT, write(0), ask(1), read(B), END), ("copy", "point", ("taken", A), "begun", 0, "elder"))
        self.told(mine, MOVE, True, (ACT, ACT, erase(0), ask(1), read(B), END), ("copy", "point", ("taken", A), "begun", 0, "elder"))
        self.told(manner("point"), MOVE, True, (ACT, ask(1), read(B), END), ("point", "begun", -1, "missed"))
        self.told(manner("point"), MOVE, True, (ACT, ask(1), erase(0), read(B), END), ("point", "begun", ("taken", A), -1, "good"))
        self.told(manner("point"), MOVE, True, (ACT, ask(1), erase(0), write(0), read(B), END),
                  ("point", "begun", ("taken", A), ("taken", A), -1, "good"))
        self.told(manner("point"), MOVE, True, (ACT, erase(0), write(0), ask(1), read(B), END),
                  ("point", ("taken", A), ("taken", A), "begun", -1, "missed"))
        # From the first beginning on: also what was the LATEST ahead of a beginning anew.
        self.told(manner("copy point", again="edition"), MOVE, True, (ACT, ask(0), ACT, write(0), read(A), END, read(B), END),
                  ("copy", "begun", "point", ("taken", A), 1, "anew", 0, "good"))
        self.told(manner("copy point", again="edition"), MOVE, True, (ACT, write(0), ask(0), ACT, write(0), read(A), END, read(B), END),
                  ("copy", ("taken", A), "begun", "point", ("taken", A), 2, "anew", 0, "elder"))
        self.told(manner("drop point", again="edition"), MOVE, True, (ACT, ask(0), ACT, erase(1), write(1), read(A), END, read(B), END),
                  ("drop", "begun", "point", ("taken", B), ("taken", B), -1, "anew", 2, "good"))
        # Two COPIES are twice, whatever they are of.
        path = ((A, (), (B,)), (B, (), ()))
        self.told(manner("copy point", how="whole"), path, True, (ACT, write(0), write(0), ask(0), read(A), read(B), END),
                  ("copy", ("taken", A), ("taken", A), "begun", 2, 0, "twice"))


class Weavings(Refusals):
    def test_mixed_weavings(self):
        words = {}
        for mine, path, weaving in weavings_to_try(1500, 11):
            told, word = told_plainly(mine, path, weaving)
            self.assertEqual(run(mine, path, weaving), told)
            self.assertEqual(word_of(mine, path, weaving), word)
            words[word] = words.get(word, 0) + 1
        self.assertEqual(set(words), {"good", "missed", "elder", "twice", None})

    def test_events_that_cannot_come(self):
        chance = Random(4)
        found = set()
        for _ in range(3000):
            mine, path = mixed_manner(chance), mixed_path(chance)
            had = path[0][0] != () and chance.random() < 0.5
            every = Tale(mine, path, had).every_event()
            weaving = (had, tuple(chance.choice(every) for _ in range(6)))
            told, _ = told_plainly(mine, path, weaving)
            if isinstance(told, int):
                self.refused(BadWeaving, {"number": told}, run, mine, path, weaving)
                self.refused(BadWeaving, {"number": told}, word_of, mine, path, weaving)
            else:
                self.assertEqual(run(mine, path, weaving), told)
            found.add(told if isinstance(told, int) else None)
        self.assertGreater(len(found), 4)

    def test_no_weaving_at_all(self):
        mine = manner("point")
        weavings = WRONG + ((True,), (True, (), ()), [True, ()], (1, ()), (0, ()), (None, ()), ("a", ()), (True, []), (True, None), (True, {}),
                            (ODD, ()), (True, ODD), ((), ()), (True, (write(),) * 61), (True, ("act",) * 61), (False, "act"), (True, True))
        for weaving in weavings:
            for call in (run, word_of):
                self.refused(BadWeaving, {"number": -1}, call, mine, MOVE, weaving)
        for call in (run, word_of):
            self.refused(BadWeaving, {"number": -1}, call, mine, COMING, (True, ()))
            self.refused(BadWeaving, {"number": -1}, call, mine, COMING, (True, (None,)))
        self.assertEqual(run(mine, COMING, (False, ())), ())
        self.assertIsNone(word_of(mine, COMING, (False, ())))

    def test_sixty_events_and_sixty_one(self):
        mine = manner("point")
        self.assertEqual(run(mine, MOVE, (True, (write(),) * 60)), (("taken", A),) * 60)
        told = run(mine, MOVE, (True, (write(),) * 57 + (ask(0), read(A), END)))
        self.assertEqual((told[-2:], len(told)), ((57, "good"), 60))
        self.assertEqual(word_of(mine, MOVE, (True, (write(),) * 57 + (ask(0), read(A), END))), "good")
        self.refused(BadWeaving, {"number": -1}, run, mine, MOVE, (True, (write(),) * 58 + (ask(0), read(A), END)))

    def test_events_of_anything(self):
        mine = manner("point")
        events = WRONG + (["act"], "act", ("Act",), ("act", 0), ("act", ()), ("write",), ("write", None), ("write", True), ("write", False),
                          ("write", "0"), ("write", 0, 0), ("write", 10 ** 39), ("erase", (0,)), ("ask", True), ("ask", A), ("read",),
                          ("read", 0), ("read", "a"), ("read", list(A)), ("read", ("a",)), ("read", (ODD, "x")), ("read", ODD), (ODD,),
                          (ODD, 0), ("write", ODD), ("look", 0), ("end", 0), ("pass", ()), ((),), (None, 0), ("write", []), ("read", {}),
                          ("ask", -1), ("write", -1))
        for event in events:
            self.refused(BadWeaving, {"number": 0}, run, mine, MOVE, (True, (event,)))
            self.refused(BadWeaving, {"number": 2}, word_of, mine, MOVE, (True, (ACT, ask(1), event)))

    def test_errors_in_order(self):
        right = (manner("point"), MOVE, (True, ()))
        for call in (run, word_of):
            self.in_order(call, right, ((0, None, BadManner), (1, None, BadPath), (2, None, BadWeaving)))

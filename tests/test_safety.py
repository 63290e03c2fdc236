from random import Random
from unittest.mock import patch

from namedcuts import safety
from namedcuts.errors import (BadBook, BadFrame, BadLayout, BadManner, BadPaper, BadPath, BadQuestion, BadScript, TooMany)
from namedcuts.paths import paths
from namedcuts.safety import check_sure, is_sure, script_unsure, sure_paper
from namedcuts.standings import behind, events, first_standings
from namedcuts.weavings import run, word_of
from plain_moving import A, B, C, D, Tale, mixed_manner, mixed_path
from refusals import Refusals
from test_standings import steps_of
from trials import ODD, WRONG

ACT, END = ("act",), ("end",)
MOVE = ((A, (), ()), (B, (), ()))
COMING = (((), (), ()), (A, (), ()))
LOST = ("any", "off", "list", "never", ("copy", "point", "drop"))
SURE = ("now", "off", "next", "never", ("seal", "copy", "point", "drain", "drop"))
AB = (("a", "b"), ())
ONE = (("p", "-", "+", "home"),)
WRONG_WORDS = ("twice", "elder", "missed")


def gone_through(manner, path, most):
    """All standings that are come to, those behind the fewest events first, by tales; and how many events lead to the
    first ending that is not good, None if there is none; None of both if there are more standings than so many."""
    tales = [Tale(manner, path, had) for had in ((False, True) if path[0][0] else (False,))]
    found = {tale.standing(): True for tale in tales}
    level = 0
    first = None
    while tales:
        nexts = []
        level += 1
        for tale in tales:
            for told, twin in steps_of(tale).values():
                if twin.word is None and told not in found:
                    found[told] = True
                    nexts.append(twin)
                elif twin.word in WRONG_WORDS and first is None:
                    first = level
        tales = nexts
        if len(found) > most:
            return None, None
    return sorted(found), first


class Papers(Refusals):
    def test_against_all_standings(self):
        chance = Random(12)
        seen = {"sure": 0, "weaving": 0}
        while min(seen.values()) < 25:
            manner, path = mixed_manner(chance, most=4), mixed_path(chance, 3)
            found, first = gone_through(manner, path, 200)
            if found is None:
                continue
            word, shown = paper = sure_paper(manner, path)
            self.assertIs(is_sure(manner, path), first is None)
            self.assertEqual(word, "sure" if first is None else "weaving")
            self.assertEqual(check_sure(manner, path, paper), word)
            seen[word] += 1
            if word == "sure":
                self.assertEqual(shown, tuple(found))
            else:
                self.assertEqual(len(shown[1]), first)
                self.assertIn(run(manner, path, shown)[-1], WRONG_WORDS)
                self.assertIn(word_of(manner, path, shown), WRONG_WORDS)

    def test_the_example(self):
        self.assertIs(is_sure(LOST, MOVE), False)
        word, weaving = sure_paper(LOST, MOVE)
        self.assertEqual((word, len(weaving[1])), ("weaving", 6))
        self.assertEqual(check_sure(LOST, MOVE, ("weaving", weaving)), "weaving")
        self.assertIs(is_sure(SURE, MOVE), True)
        word, cover = sure_paper(SURE, MOVE)
        self.assertEqual((word, cover), ("sure", tuple(gone_through(SURE, MOVE, 10 ** 6)[0])))
        self.assertEqual(check_sure(SURE, MOVE, (word, cover)), "sure")
        # Where nothing moves both are SURE.
        for path in (((A, (), ()),) * 2, ((A, (B,), (C,)),), (((), (), ()),) * 3):
            for manner in (LOST, SURE):
                self.assertIs(is_sure(manner, path), True)

    def test_what_makes_them_sure(self):
        # Each of these is needed: without it something is lost, or shown twice.
        for acts in (("copy", "point", "drain", "drop"), ("seal", "point", "drain", "drop"), ("seal", "copy", "point", "drop")):
            self.assertIs(is_sure((*SURE[:4], acts), MOVE), False)
        self.assertIs(is_sure((*SURE[:4], ("seal", "copy", "point", "drain")), MOVE), True)
        self.assertIs(is_sure(("any", *SURE[1:]), MOVE), True)
        path = ((A, (), (B,)), (B, (A,), ()))
        self.assertIs(is_sure(("now", "off", "whole", "never", SURE[4]), path), False)

    def test_many_editions(self):
        path = tuple((site, (), ()) for site in (A, B, C, A, D))
        self.assertIs(is_sure(SURE, path), True)
        self.assertEqual(check_sure(SURE, path, sure_paper(SURE, path)), "sure")
        word, (_, found) = sure_paper((*SURE[:4], ("seal", "copy", "point", "drop")), path)
        self.assertEqual(word, "weaving")
        self.assertLessEqual(len(found), 60)

    def test_too_many(self):
        sites = [(one, "h") for one in "abcde"]
        path = tuple((site, (), tuple(one for one in sites if one != site)) for site in sites)
        manner = ("any", "off", "next", "own", ("catch", "point", "hold", "copy", "hold", "both", "free", "copy"))
        for call in (is_sure, sure_paper):
            self.refused(TooMany, {"most": 20000}, call, manner, path)
        # Without the last EDITION there are fewer.
        short = tuple((site, (), tuple(one for one in sites[:4] if one != site)) for site in sites[:4])
        self.assertIs(is_sure(manner, short), True)

    def test_just_as_many_as_may_be(self):
        many = len(sure_paper(SURE, MOVE)[1])
        with patch.object(safety, "MOST_STANDINGS", many):
            self.assertIs(is_sure(SURE, MOVE), True)
        with patch.object(safety, "MOST_STANDINGS", many - 1):
            self.refused(TooMany, {"most": many - 1}, is_sure, SURE, MOVE)
        self.assertEqual(safety.MOST_STANDINGS, 20000)

    def test_errors_in_order(self):
        for call in (is_sure, sure_paper):
            self.in_order(call, (SURE, MOVE), ((0, None, BadManner), (1, None, BadPath)))
        self.in_order(check_sure, (SURE, MOVE, sure_paper(SURE, MOVE)), ((0, None, BadManner), (1, None, BadPath), (2, None, BadPaper)))
        self.refused(BadManner, {"place": (3,)}, is_sure, ("any", "on", "list", "", ()), None)
        self.refused(BadPath, {"place": (0,)}, sure_paper, SURE, (None,))


class CheckSure(Refusals):
    def no(self, part, paper, manner=SURE, path=MOVE):
        self.refused(BadPaper, {"part": part}, check_sure, manner, path, paper)

    def test_wrong_forms(self):
        cover = sure_paper(SURE, MOVE)[1]
        weaving = sure_paper(LOST, MOVE)[1]
        for paper in WRONG + (("sure",), ("sure", cover, ()), ["sure", cover], ("Sure", cover), ("weaving", cover), ("sure", list(cover)),
                              ("sure", cover[::-1]), ("sure", cover[:5] + cover[4:]), ("sure", (None,)), ("sure", (ODD,)), ("sure", ODD), (ODD, cover),
                              ("sure", cover + (cover[-1],)), ("sure", cover[:3] + (cover[3][:9],)), ("sure", (cover[0], cover[2], cover[1])),
                              ("sure", None), ("sure", weaving), (True, cover), ("", cover)):
            self.no("form", paper)
        for thing in WRONG + (list(weaving), (weaving[0], list(weaving[1])), (1, weaving[1]), (weaving[0], weaving[1] + (END,)),
                              (weaving[0], weaving[1][1:]), (weaving[0], weaving[1][:2] + weaving[1][3:]), (None, ()), (True, (ODD,)), (ODD, ODD),
                              (True, (("write", 0),) * 61), (True, (("write", 1),))):
            self.no("form", ("weaving", thing), LOST)
        self.no("form", ("weaving", (True, ())), LOST, COMING)

    def test_covers(self):
        cover = sure_paper(SURE, MOVE)[1]
        # A STANDING left out is come to from another one, or is one of those at first.
        for number in range(0, len(cover), 3):
            self.no("sure", ("sure", cover[:number] + cover[number + 1:]))
        self.no("sure", ("sure", ()))
        self.no("sure", ("sure", first_standings(SURE, MOVE)))
        # STANDINGs to which nothing comes may be put in if all that comes of them is there.
        own = cover[0][5]
        for standing, is_so in (((1, 0, 1, ((A, 1), (B, 2)), (A,), own, False, False, True, ()), False),
                                ((1, 0, 1, ((B, 2),), (A,), own, False, False, False, (1, True, (), True)), True),
                                ((1, 0, 1, ((B, 1),), (A,), own, False, False, False, (1, True, ((B, 1),), False)), False),
                                ((1, 0, 1, ((B, 1),), (A,), own, False, False, False, (1, True, (), False)), False)):
            more = tuple(sorted(set(cover) | {standing}))
            if is_so:
                self.assertEqual(check_sure(SURE, MOVE, ("sure", more)), "sure")
            else:
                self.no("sure", ("sure", more))
        # No COVER holds where the MANNER is not SURE, though all STANDINGs that are come to are there.
        every = tuple(gone_through(LOST, MOVE, 10 ** 6)[0])
        self.no("sure", ("sure", every), LOST)

    def test_covers_with_more_than_is_come_to(self):
        cover = sure_paper(SURE, MOVE)[1]
        own = cover[0][5]
        extra = (1, 0, 1, ((A, 1), (B, 2)), (A,), own, False, False, True, ())
        found = {extra: True}
        waiting = [extra]
        is_so = True
        while waiting:
            standing = waiting.pop()
            for event in events(SURE, MOVE, standing) + (END,) * (standing[9] != () and standing[9][1]):
                new = behind(SURE, MOVE, standing, event)
                if isinstance(new, str):
                    is_so = is_so and new == "good"
                elif new not in found:
                    found[new] = True
                    waiting.append(new)
        self.assertTrue(is_so)
        more = tuple(sorted(set(cover) | set(found)))
        self.assertGreater(len(more), len(cover))
        self.assertEqual(check_sure(SURE, MOVE, ("sure", more)), "sure")

    def test_weavings(self):
        word, (had, found) = sure_paper(LOST, MOVE)
        self.assertEqual(check_sure(LOST, MOVE, (word, (had, found))), "weaving")
        # A longer one holds, too.
        self.assertEqual(check_sure(LOST, MOVE, (word, (had, (("write", 0),) * 20 + found))), "weaving")
        for weaving in ((had, ()), (had, found[:-1]), (True, (("ask", 0), ("read", A), END)), (had, (ACT,) * 3)):
            self.no("weaving", ("weaving", weaving), LOST)
        self.no("weaving", ("weaving", (True, (("ask",), ("look",), ("read", A), END))))
        path = ((A, (), (B,)), (B, (), ()))
        twice = (True, (ACT, ("ask", 0), ("read", A), ("read", B), END))
        manner = ("any", "off", "whole", "never", ("copy", "point"))
        self.assertEqual(check_sure(manner, path, ("weaving", twice)), "weaving")
        elder = (True, (ACT, ("write", 0), ("ask", 0), ("read", B), ))
        self.no("form", ("weaving", elder), LOST)
        elder = (True, (ACT, ("write", 0), ACT, ("ask", 1), ("read", B), END))
        self.assertEqual(word_of(LOST, MOVE, elder), "elder")
        self.assertEqual(check_sure(LOST, MOVE, ("weaving", elder)), "weaving")


class Scripts(Refusals):
    def test_scripts(self):
        for script, layout, manner, is_so in (
                ((("move", "p", "hut"),), ONE, SURE, True), ((("move", "p", "hut"),), ONE, LOST, False), ((), ONE, LOST, True),
                ((("move", "p", "home"),), ONE, LOST, True), ((("split", "p", "a", "p", "q"),), ONE, SURE, True),
                ((("split", "p", "a", "p", "q"),), ONE, LOST, False), ((("need", "a", "b"), ("move", "p", "hut")), ONE, LOST, False),
                ((("if", "a", "b", (("move", "p", "hut"),), ()),), ONE, SURE, True)):
            found = script_unsure(AB, (), layout, script, manner)
            self.assertEqual(found is None, is_so)
            unsure = [one for one in paths(AB, (), layout, script) if not is_sure(manner, one[0])]
            self.assertEqual(bool(unsure), not is_so)
            if unsure:
                path, facts, cut = unsure[0]
                self.assertEqual(found[:2], (facts, cut))
                self.assertIn(word_of(manner, path, found[2]), WRONG_WORDS)
                self.assertEqual(len(found[2][1]), len(sure_paper(manner, path)[1][1]))

    def test_the_first_path(self):
        # Of the CUTs those that have b change their SEAT: the PATH of ("b",) is the only one, as it is all PATHs of them.
        script = (("split", "p", "b", "p", "q"), ("move", "q", "hut"))
        found = script_unsure(AB, (), ONE, script, LOST)
        self.assertEqual(found[:2], ((), ("b",)))
        self.assertEqual([cut for _, _, cut in paths(AB, (), ONE, script)], [(), ("b",)])
        both = (("split", "p", "b", "p", "q"), ("move", "q", "hut"), ("move", "p", "hut"))
        self.assertEqual(script_unsure(AB, (), ONE, both, LOST)[:2], ((), ()))
        told = script_unsure(AB, (), ONE, (("if", "a", "b", (), (("move", "p", "hut"),)),), LOST)
        self.assertEqual(told[:2], ((("b", "ahead", "a"),), ()))

    def test_errors_in_order(self):
        move = ("move", "p", "hut")
        right = (AB, (), ONE, (move,), SURE)
        self.in_order(script_unsure, right, ((0, None, BadFrame), (1, None, BadBook), (2, None, BadLayout), (3, None, BadScript),
                                             (4, None, BadManner)))
        frame = (tuple("abcdefg"), ())
        pairs = list(zip("abcdef", "bcdefg")) + [("a", "g"), ("b", "f"), ("a", "e"), ("c", "g")]
        many = tuple(("if", one, other, (), ()) for one, other in pairs)
        call, twice = (("call", "p", "q"), ("call", "q", "p")), (("on", "q", "a", "+", "h"),)
        self.refused(BadManner, {"place": ()}, script_unsure, frame, (), ONE, many + call, None)
        self.refused(TooMany, {"most": 200}, script_unsure, frame, (), ONE, many + call + (move,) * 6 + twice, SURE)
        self.refused(BadQuestion, {}, script_unsure, AB, (), ONE, call + (move,) * 6 + twice, SURE)
        self.refused(TooMany, {"most": 5}, script_unsure, AB, (), ONE, twice + (move,) * 6, SURE)
        self.refused(BadQuestion, {}, script_unsure, AB, (), ONE, twice, SURE)
        self.refused(BadManner, {"place": (4,)}, script_unsure, AB, (), ONE, twice, (*SURE[:4], ()))

    def test_too_many_standings(self):
        manner = ("any", "off", "next", "own", ("catch", "point", "hold", "copy", "hold", "both", "free", "copy"))
        script = tuple(("move", "p", house) for house in ("b", "c", "d", "e"))
        with patch.object(safety, "MOST_STANDINGS", 50):
            self.refused(TooMany, {"most": 50}, script_unsure, AB, (), ONE, script, SURE)
        self.assertIsNone(script_unsure(AB, (), ONE, script, SURE))
        self.assertIsNotNone(script_unsure(AB, (), ONE, script, manner))

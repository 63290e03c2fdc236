from namedcuts.errors import BadClaim, BadFrame, BadPaper, BadQuestion, TooMany
from namedcuts.judge import Ledger, judged
from namedcuts.lives import on_life
from namedcuts.looks import on_looks
from namedcuts.maps import on_range
from namedcuts.planrules import rule_fault, sharp_rule, textbook
from namedcuts.reads import on_always
from namedcuts.terms import upto_paper
from refusals import Refusals
from trials import ODD, WRONG, few_frames, terms_to_try

AB = (("a", "b"), ())
UPTO = ("a", "upto", "b")
TOLD = (("a", "b"), (UPTO,))
ABC = (("a", "b", "c"), ())
LAYOUT = (("p", "-", "a", "home"), ("q", "a", "+", "home"))
GAP = (("p", "-", "a", "home"),)
TWICE = (("p", "-", "b", "home"), ("q", "a", "+", "home"))
ASK = ("from", "b")
ALL = ("all",)
CUT = ("cut",)
KEEP = ((1, 0, CUT), (1, 0, ("keep", 3)))
HOLDS = ("holds",)
SHARP = (("p", ("ahead", "b", "a")), ("q", ("yes",)))
WIDE = (("p", ("yes",)), ("q", ("yes",)))
NARROW = (("p", ("no",)), ("q", ("yes",)))

# For each sort of CLAIM one that is true with a PAPER, and one that is not.
TRUE = {
    "upto": (("upto", TOLD, "a", "b"), ("ways", (("a", "b"),))),
    "range": (("range", AB, (("a",), ())), ("range", "-", "b")),
    "looks": (("looks", AB, LAYOUT, 1), on_looks(AB, LAYOUT)),
    "always": (("always", AB, LAYOUT, ALL, "p"), on_always(AB, LAYOUT, ALL, "p")),
    "sharp": (("sharp", AB, LAYOUT, ASK, SHARP), HOLDS),
    "safe": (("safe", AB, LAYOUT, ASK, WIDE), HOLDS),
    "life": (("life", KEEP, 4), on_life(KEEP, 4)),
}
FALSE = {
    "upto": (("upto", AB, "a", "b"), ("world", (5, 3), 4)),
    "range": (("range", AB, ((), ("a", "b"))), ("three", (), ("a",), ("a", "b"))),
    "looks": (("looks", AB, LAYOUT, 2), on_looks(AB, LAYOUT)),
    "always": (("always", AB, LAYOUT, ASK, "p"), ("row", ((), ("a", "b")))),
    "sharp": (("sharp", AB, LAYOUT, ASK, WIDE), ("idle", "p", (1, 2))),
    "safe": (("safe", AB, LAYOUT, ASK, NARROW), ("missed", "p", (2, 1))),
    "life": (("life", KEEP, 5), ("gone", 0, 4)),
}


class Judged(Refusals):
    def test_each_sort_true_and_not_true(self):
        for word, (claim, paper) in TRUE.items():
            self.assertIs(judged(claim, paper), True, word)
        for word, (claim, paper) in FALSE.items():
            self.assertIs(judged(claim, paper), False, word)
        self.assertIs(judged(("range", AB, ()), ("empty",)), False)
        self.assertIs(judged(("sharp", AB, LAYOUT, ASK, NARROW), ("missed", "p", (2, 1))), False)
        self.assertIs(judged(("safe", AB, LAYOUT, ASK, SHARP), HOLDS), True)

    def test_what_the_modules_find_is_judged_so(self):
        for frame in few_frames()[:8]:
            terms = terms_to_try(frame[0], 5, 91)[:12]
            for one in terms:
                for other in terms:
                    paper = upto_paper(frame, one, other)
                    self.assertIs(judged(("upto", frame, one, other), paper), paper[0] == "ways")
        for some in ((), ((),), (("a",), ("b",)), (("a",), ("a", "b")), ((), ("a", "b")), ((), ("a",), ("b",), ("a", "b"))):
            paper = on_range(AB, some)
            self.assertIs(judged(("range", AB, some), paper), paper[0] == "range")
        for ask in (ASK, ALL, ("none",), ("ahead", "a"), ("from", ("least", "a", "b"))):
            for part in ("p", "q"):
                paper = on_always(AB, LAYOUT, ask, part)
                self.assertIs(judged(("always", AB, LAYOUT, ask, part), paper), paper[0] == "closed")
            rule = sharp_rule(AB, LAYOUT, ask)
            self.assertIs(judged(("sharp", AB, LAYOUT, ask, rule), HOLDS), True)
            self.assertIs(judged(("safe", AB, LAYOUT, ask, rule), HOLDS), True)
        for least in (1, 3, 4, 5, 40):
            self.assertIs(judged(("life", KEEP, least), on_life(KEEP, least)), least <= 4)

    def test_papers_that_do_not_hold(self):
        for words, part in (
                (("upto", ("ways", ())), "ways"), (("upto", ("world", (1, 2), 1)), "world"), (("upto", ("way", ())), "form"),
                (("range", ("range", "-", "a")), "range"), (("range", ("empty",)), "empty"),
                (("range", ("three", (), (), ())), "three"), (("looks", ("looks", "p", (((), (), 0),))), "tree"),
                (("looks", ("looks", ("a", "p", "q"), (((), (), 0),))), "depth"),
                (("looks", ("looks", ("a", "p", "q"), (((), (), 2),))), "asker"),
                (("always", ("row", ((), ("a", "b")))), "row"), (("always", ("closed", (("a", "b"),))), "closed"),
                (("sharp", ("idle", "q", (1, 2))), "idle"), (("sharp", ("missed", "p", (1, 2))), "missed"),
                (("safe", ("missed", "p", (1, 2))), "missed"), (("safe", ("idle", "q", (2, 1))), "idle"),
                (("life", ("lot", ())), "lot"), (("life", ("gone", 0, 3)), "gone")):
            word, paper = words
            self.refused(BadPaper, {"part": part}, judged, TRUE[word][0], paper)
        for claim, _ in [*TRUE.values(), *FALSE.values()]:
            for paper in WRONG:
                self.refused(BadPaper, {"part": "form"}, judged, claim, paper)
            for paper in (("holds", 1), ("Holds",), ["holds"], (ODD,)):
                self.refused(BadPaper, {"part": "form"}, judged, claim, paper)
            if claim[0] not in ("sharp", "safe"):
                self.refused(BadPaper, {"part": "form"}, judged, claim, HOLDS)

    def test_holds_and_idle(self):
        self.refused(BadPaper, {"part": "holds"}, judged, FALSE["sharp"][0], HOLDS)
        self.refused(BadPaper, {"part": "holds"}, judged, FALSE["safe"][0], HOLDS)
        # A PART that is taken in vain shows nothing of what is SAFE.
        idle = ("idle", "p", (1, 2))
        self.assertEqual(rule_fault(AB, LAYOUT, ASK, WIDE, True)[0], "idle")
        self.refused(BadPaper, {"part": "idle"}, judged, TRUE["safe"][0], idle)
        self.refused(BadPaper, {"part": "idle"}, judged, FALSE["safe"][0], ("idle", "q", (1, 2)))
        self.assertIs(judged(("sharp", AB, LAYOUT, ASK, WIDE), idle), False)

    def test_looks_with_another_number(self):
        for least in range(8):
            self.assertIs(judged(("looks", AB, LAYOUT, least), on_looks(AB, LAYOUT)), least == 1)

    def test_a_layout_without_a_map(self):
        whole = ("looks", "p", (((), (), 0),))
        for claim, paper in ((("looks", AB, TWICE, 1), whole), (("always", AB, TWICE, ASK, "p"), ("row", ((),))),
                             (("sharp", AB, TWICE, ASK, ()), HOLDS), (("safe", AB, TWICE, ASK, ()), HOLDS),
                             (("sharp", AB, TWICE, ASK, ()), ("missed", "p", (1, 2)))):
            self.assertRaises(BadQuestion, judged, claim, paper)
        self.refused(BadPaper, {"part": "form"}, judged, ("sharp", AB, TWICE, ASK, ()), ("missed", "p", (1,)))
        self.assertIs(judged(("always", AB, GAP, ALL, "p"), on_always(AB, GAP, ALL, "p")), True)

    def test_too_many(self):
        names = tuple("abcdef")
        layout = (("p", "-", ("least", *names), "home"), ("q", ("least", *names), "+", "home"))
        for word in ("sharp", "safe"):
            claim = (word, (names, ()), layout, ALL, ())
            self.refused(TooMany, {"most": 5}, judged, claim, HOLDS)
            self.refused(BadPaper, {"part": "missed"}, judged, claim, ("missed", "p", (1,) * 6))


class Claims(Refusals):
    def test_each_place(self):
        wrong = {
            "upto": [(None, "a", "b"), (AB, "c", "b"), (AB, "a", ("lo", "p")), (AB, "a"), (AB, "a", "b", "a"),
                     ((("a",), (("a", "upto", "a"),)), "a", "a"), (AB, 5, "a"), (AB, "a", ())],
            "range": [(None, ()), (AB, ((), ())), (AB, ("a",)), (AB, [()]), (AB, (("b", "a"),)), (AB,), (AB, (), ()),
                      (TOLD, (("b",),)), (AB, None)],
            "looks": [(None, LAYOUT, 1), (AB, None, 1), (AB, LAYOUT, -1), (AB, LAYOUT, 8), (AB, LAYOUT, True),
                      (AB, LAYOUT, "1"), (AB, LAYOUT), (AB, LAYOUT, 1, 1), (AB, (("p", "c", "a", "home"),), 1)],
            "always": [(None, LAYOUT, ASK, "p"), (AB, None, ASK, "p"), (AB, LAYOUT, ("all", 1), "p"),
                       (AB, LAYOUT, ASK, "r"), (AB, LAYOUT, ASK, None), (AB, LAYOUT, ASK, ODD), (AB, LAYOUT, ASK),
                       (AB, LAYOUT, ASK, "p", "p")],
            "sharp": [(None, LAYOUT, ASK, ()), (AB, LAYOUT[::-1], ASK, ()), (AB, LAYOUT, ("from", "c"), ()),
                      (AB, LAYOUT, ASK, SHARP[::-1]), (AB, LAYOUT, ASK, (("p", ("maybe",)),)), (AB, LAYOUT, ASK)],
            "safe": [(None, LAYOUT, ASK, ()), (AB, None, ASK, ()), (AB, LAYOUT, None, ()), (AB, LAYOUT, ASK, None)],
            "life": [((), 1), (KEEP, 0), (KEEP, 41), (KEEP, True), (KEEP, "1"), (KEEP,), (KEEP, 1, 1),
                     (AB, KEEP, 1), (None, 1)],
        }
        for word, things in wrong.items():
            for told in things:
                claim = (word, *told)
                self.bad(BadClaim, claim, judged, claim, None)
                self.bad(BadClaim, claim, Ledger(AB).enter, claim, None)

    def test_what_is_none_at_all(self):
        for thing in (*WRONG, ("Upto", AB, "a", "b"), ("upto",), ["upto", AB, "a", "b"], (ODD, AB, "a", "b"),
                      (AB, "upto", "a", "b"), ("range", AB, (), ())):
            self.bad(BadClaim, thing, judged, thing, None)
        for word, (claim, _) in TRUE.items():
            for at in range(1, len(claim)):
                for thing in WRONG:
                    other = (*claim[:at], thing, *claim[at + 1:])
                    if thing is ODD or not self.may_stand(word, thing):
                        self.bad(BadClaim, other, judged, other, None)

    def may_stand(self, word, thing):
        if isinstance(thing, int) and not isinstance(thing, bool):
            return thing == 1 or thing == 0 and word == "looks"
        return thing in ((), ((),), (("a",),)) and word != "life"


class Ledgers(Refusals):
    def test_enter(self):
        ledger = Ledger(AB)
        self.assertEqual(ledger.claims, ())
        told = []
        for word in TRUE:
            for (claim, paper), is_true in ((TRUE[word], True), (FALSE[word], False)):
                if word == "upto" and is_true:
                    # Its FRAME is another one.
                    self.assertRaises(BadQuestion, ledger.enter, claim, paper)
                    continue
                self.assertIs(ledger.enter(claim, paper), is_true)
                told.append((claim, is_true))
                self.assertEqual(ledger.claims, tuple(told))
        claim, paper = TRUE["range"]
        self.assertIs(ledger.enter(claim, paper), True)
        self.assertEqual(ledger.claims, tuple([*told, (claim, True)]))

    def test_errors(self):
        for thing in WRONG:
            self.assertRaises(BadFrame, Ledger, thing)
        ledger = Ledger(AB)
        for claim, paper in TRUE.values():
            self.refused(BadPaper, {"part": "form"}, ledger.enter, claim, None)
        # What does not hold is refused ahead of another FRAME.
        self.refused(BadPaper, {"part": "ways"}, ledger.enter, TRUE["upto"][0], ("ways", ()))
        same = ("upto", (("a", "b"), (UPTO, UPTO)), "a", "b")
        self.assertRaises(BadQuestion, Ledger(TOLD).enter, same, ("ways", (("a", "b"),)))
        self.assertEqual(ledger.claims, ())
        for thing in (*WRONG, ("a", "upto", "c")):
            self.refused(BadFrame, {"part": "facts", "number": 0}, ledger.tell, thing)
        self.refused(BadFrame, {"part": "ring", "number": None}, Ledger(TOLD).tell, ("b", "ahead", "a"))
        full = (("a", "b"), (UPTO,) * 60)
        self.refused(BadFrame, {"part": "facts", "number": None}, Ledger(full).tell, UPTO)

    def test_tell_with_claims_that_stay_and_such_that_do_not(self):
        entries = [
            # The LEASTS of the least are others then, so that the ways have to begin elsewhere.
            (("upto", AB, ("least", "a", "b"), "b"), ("ways", (("b",),)), None),
            (("upto", AB, "a", "a"), ("ways", (("a",),)), True),
            (("upto", AB, "a", "b"), ("world", (5, 3), 4), None),
            (("upto", AB, "b", "a"), ("world", (3, 5), 4), True),
            (("range", AB, (("b",),)), on_range(AB, (("b",),)), None),
            (("range", AB, (("a",),)), ("range", "a", "b"), True),
            (("range", AB, (("a",), ())), ("range", "-", "b"), True),
            (("looks", AB, LAYOUT, 1), on_looks(AB, LAYOUT), True),
            (("always", AB, LAYOUT, ALL, "p"), on_always(AB, LAYOUT, ALL, "p"), True),
            (("always", AB, LAYOUT, ASK, "p"), ("row", ((), ("a", "b"))), True),
            (("always", AB, LAYOUT, ASK, "p"), ("row", ((), ("a",), ("a", "b"))), True),
            (("sharp", AB, LAYOUT, ASK, SHARP), HOLDS, True),
            (("safe", AB, LAYOUT, ASK, NARROW), ("missed", "p", (2, 1)), None),
            (("sharp", AB, LAYOUT, ASK, WIDE), ("idle", "p", (1, 2)), True),
            (("life", KEEP, 4), on_life(KEEP, 4), True),
            (("life", KEEP, 9), ("gone", 0, 4), True),
        ]
        ledger = Ledger(AB)
        before = [(claim, ledger.enter(claim, paper)) for claim, paper, _ in entries]
        gone = ledger.tell(UPTO)
        wanted = tuple(at for at, (claim, paper, stays) in enumerate(entries) if not stays)
        self.assertEqual(gone, wanted)
        left = [(claim if claim[0] == "life" else (claim[0], TOLD, *claim[2:]), told)
                for at, (claim, told) in enumerate(before) if at not in gone]
        self.assertEqual(ledger.claims, tuple(left))
        # The numbers are those that they have now.
        self.assertEqual(ledger.tell(("a", "ahead", "b")), self.gone_plainly(left, entries, ("a", "ahead", "b")))
        self.assertEqual(ledger.tell(UPTO), ())
        self.assertIs(ledger.enter(("upto", (("a", "b"), (UPTO, ("a", "ahead", "b"), UPTO)), "a", "b"),
                                   ("ways", (("a", "b"),))), True)

    def gone_plainly(self, left, entries, fact):
        """The numbers of the claims whose paper shows something else in the frame with one fact more."""
        frame = (TOLD[0], (*TOLD[1], fact))
        kept = [(claim, paper) for claim, paper, stays in entries if stays]
        self.assertEqual(len(kept), len(left))
        gone = []
        for at, ((claim, paper), (_, told)) in enumerate(zip(kept, left)):
            if claim[0] == "life":
                continue
            try:
                stays = judged((claim[0], frame, *claim[2:]), paper) is told
            except (BadClaim, BadPaper):
                stays = False
            if not stays:
                gone.append(at)
        return tuple(gone)

    def test_a_claim_that_turns_out_the_contrary(self):
        # Behind the FACT fewer looks are enough, so that the ASKER does not hold.
        layout = (("p", "-", "a", "home"), ("q", "a", "b", "home"), ("r", "b", "+", "home"))
        frame = (("a", "b"), (UPTO,))
        ledger = Ledger(frame)
        ledger.enter(("looks", frame, layout, 2), on_looks(frame, layout))
        self.assertEqual(ledger.tell(("b", "upto", "a")), (0,))
        self.assertEqual(ledger.claims, ())
        # A claim of no RANGE whose paper stays, as its cuts do.
        ledger = Ledger(ABC)
        some = ((), ("a", "b", "c"))
        ledger.enter(("range", ABC, some), ("three", (), ("a",), ("a", "b", "c")))
        self.assertEqual(ledger.tell(("a", "upto", "b")), ())
        self.assertEqual(ledger.tell(("b", "upto", "a")), (0,))

    def test_equal_frames_and_told_ones(self):
        ledger = Ledger(AB)
        ledger.tell(UPTO)
        self.assertRaises(BadQuestion, ledger.enter, *FALSE["range"])
        self.assertIs(ledger.enter(*TRUE["upto"]), True)
        self.assertEqual(ledger.claims, ((TRUE["upto"][0], True),))

    def test_textbook_rules_stay_safe(self):
        ledger = Ledger(AB)
        rule = textbook(AB, LAYOUT, "b", "+")
        claim = ("safe", AB, LAYOUT, ASK, rule)
        self.assertIs(ledger.enter(claim, HOLDS), True)
        self.assertEqual(ledger.tell(UPTO), ())
        self.assertEqual(ledger.claims, ((("safe", TOLD, LAYOUT, ASK, rule), True),))

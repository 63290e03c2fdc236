from itertools import combinations

from namedcuts.asks import is_asked
from namedcuts.cuts import cuts, is_row, row_of, world_along
from namedcuts.errors import BadAsk, BadFrame, BadLayout, BadPaper, BadPart, BadQuestion, BadWorld
from namedcuts.layouts import parts_of
from namedcuts.reads import check_always, few_reads, most_reads, on_always, read_in, reads
from plain import any_layouts, right_layouts
from plain_asks import asks_to_try, read_plainly
from refusals import Refusals
from test_maps import has_map
from trials import ODD, WRONG, few_frames, worlds_of

AB = (("a", "b"), ())
LINE = (("x", "-", "a", "hut"), ("y", "a", ("greatest", "a", "b"), "home"), ("z", ("greatest", "a", "b"), "+", "home"))
TWICE = (("x", "-", "+", "h"), ("y", "-", "+", "h"))
ALL = ("all",)


def tried(right=2, others=8, asks=5):
    for at, frame in enumerate(few_frames()):
        for layout in right_layouts(frame, right, at + 7) + any_layouts(frame, others, at + 7):
            if has_map(frame, layout):
                for ask in asks_to_try(frame, asks, at + len(layout)) + [ALL]:
                    yield frame, layout, ask


def hits(frame, layout, ask, part):
    """The cuts by which a part is read."""
    return [cut for cut in cuts(frame) if part in parts_of(frame, layout, cut) and is_asked(frame, ask, cut)]


class Reads(Refusals):
    def test_reads_in_all_worlds(self):
        seen = set()
        for frame, layout, ask in tried():
            found = reads(frame, layout, ask)
            self.assertEqual(list(found), [part[0] for part in layout])
            read = [read_plainly(frame, layout, ask, world) for world in worlds_of(frame)]
            for part in found:
                many = sum(part in some for some in read)
                word = "never" if many == 0 else "always" if many == len(read) else "sometimes"
                lot = [cut for cut in cuts(frame) if part in parts_of(frame, layout, cut)]
                whole = bool(lot) and all(is_asked(frame, ask, cut) for cut in lot)
                self.assertEqual(found[part], (word, whole))
                self.assertIs(found[part][1], whole)
                seen.add(found[part])
        self.assertEqual(seen, {("never", False), ("sometimes", False), ("sometimes", True), ("always", False), ("always", True)})

    def test_some(self):
        self.assertEqual(reads(AB, LINE, ALL), {"x": ("always", True), "y": ("sometimes", True), "z": ("always", True)})
        self.assertEqual(reads(AB, LINE, ("none",)), dict.fromkeys("xyz", ("never", False)))
        self.assertEqual(reads(AB, LINE, ("from", "b")), {"x": ("sometimes", False), "y": ("never", False), "z": ("always", True)})
        self.assertEqual(reads(AB, (), ALL), {})
        # What is EMPTY in all WORLDs is not asked WHOLE.
        self.assertEqual(reads(AB, (("x", "a", "-", "h"), ("y", "+", "+", "h")), ALL), dict.fromkeys("xy", ("never", False)))
        # With a FACT "ahead" a PART that has neither end may be read always.
        frame = (("a", "b"), (("a", "ahead", "b"),))
        between = (("m", "a", "b", "h"),)
        self.assertEqual(reads(frame, between, ALL), {"m": ("always", True)})
        self.assertEqual(reads((("a", "b"), (("a", "upto", "b"),)), between, ALL), {"m": ("sometimes", True)})
        self.assertEqual(reads(frame, between, ("from", "b")), {"m": ("never", False)})

    def test_what_is_returned_is_the_callers_own(self):
        reads(AB, LINE, ALL).clear()
        self.assertEqual(len(reads(AB, LINE, ALL)), 3)

    def test_without_a_fact_ahead_the_ends_alone_count(self):
        for frame, layout, ask in tried():
            if not any(word == "ahead" for _, word, _ in frame[1]):
                for part, (word, _) in reads(frame, layout, ask).items():
                    hit = hits(frame, layout, ask, part)
                    self.assertEqual(word == "always", () in hit or frame[0] in hit)

    def test_read_in_worlds(self):
        several = 0
        for frame, layout, ask in tried(2, 5, 3):
            for world in worlds_of(frame):
                found = read_in(frame, layout, ask, world)
                self.assertEqual(found, read_plainly(frame, layout, ask, world))
                several += list(found) != sorted(found)
        self.assertGreater(several, 10)
        # A PART that is first asked behind another one comes behind it.
        ask = ("or", (("from", "b"), ("and", (("from", "a"), ("ahead", "a")))))
        self.assertEqual(read_in(AB, LINE, ask, (5, 2)), ("x", "z"))
        self.assertEqual(read_in(AB, LINE, ("not", ("ahead", "a")), (5, 9)), ("y", "z"))
        self.assertEqual(read_in(AB, (("p", "a", "+", "h"), ("q", "-", "a", "h")), ALL, (5, 9)), ("q", "p"))

    def test_fewest_and_most(self):
        unlike = 0
        for frame, layout, ask in tried():
            read = [len(read_plainly(frame, layout, ask, world)) for world in worlds_of(frame)]
            for call, many in ((few_reads, min(read)), (most_reads, max(read))):
                number, row = call(frame, layout, ask)
                self.assertEqual((number, type(number)), (many, int))
                self.assertIs(is_row(frame, row), True)
                self.assertEqual(len(read_in(frame, layout, ask, world_along(frame, row))), many)
            unlike += min(read) < max(read)
        self.assertGreater(unlike, 50)

    def test_a_part_that_is_read_twice_counts_once(self):
        # In it lie (), a and ab; of these just () and ab are asked.
        line = (("a", "b", "c"), (("a", "upto", "b"), ("b", "upto", "c")))
        ask = ("or", (("ahead", "a"), ("from", "b")))
        layout = (("p", "-", "c", "h"), ("q", "c", "+", "h"))
        self.assertEqual(most_reads(line, layout, ask)[0], 2)
        self.assertEqual(few_reads(line, layout, ask)[0], 2)
        self.assertEqual(most_reads(line, (("p", "-", "+", "h"),), ask)[0], 1)
        self.assertEqual(few_reads(line, (), ask)[0], 0)

    def test_large_frames(self):
        names = tuple("abcdefg")
        layout = tuple((one, low, high, "h") for one, low, high in zip("pqr", ("-", "a", ("greatest", "a", "b", "c")),
                                                                          ("a", ("greatest", "a", "b", "c"), "+")))
        ask = ("or", (("and", (("from", "d"), ("ahead", "e"))), ("from", ("greatest", *names))))
        frame = (names, (("f", "ahead", "g"),))
        number, row = most_reads(frame, layout, ask)
        self.assertEqual((number, len(read_in(frame, layout, ask, world_along(frame, row)))), (3, 3))
        number, row = few_reads(frame, layout, ask)
        self.assertEqual((number, len(read_in(frame, layout, ask, world_along(frame, row)))), (1, 1))
        self.assertEqual([word for word, _ in reads(frame, layout, ask).values()], ["sometimes", "sometimes", "always"])

    def test_errors_in_order(self):
        args = (AB, LINE, ALL)
        wrong = ((0, None, BadFrame), (1, None, BadLayout), (2, None, BadAsk))
        for call in (reads, few_reads, most_reads):
            self.in_order(call, args, wrong)
            self.assertRaises(BadQuestion, call, AB, TWICE, ALL)
            self.assertRaises(BadAsk, call, AB, TWICE, None)
        self.in_order(read_in, (*args, (1, 2)), wrong + ((3, (1, "2"), BadWorld),))
        self.in_order(on_always, (*args, "x"), wrong + ((3, "w", BadPart),))
        self.in_order(check_always, (*args, "x", on_always(*args, "x")), wrong + ((3, "w", BadPart), (4, (), BadPaper)))
        self.assertRaises(BadQuestion, read_in, AB, TWICE, ALL, (1, 2))
        self.assertRaises(BadWorld, read_in, AB, TWICE, ALL, (1,))
        self.assertRaises(BadQuestion, on_always, AB, TWICE, ALL, "x")
        self.assertRaises(BadPart, on_always, AB, TWICE, ALL, "z")
        self.assertRaises(BadQuestion, check_always, AB, TWICE, ALL, "x", ("row", ()))
        self.refused(BadPaper, {"part": "form"}, check_always, AB, TWICE, ALL, "x", ("rows", ()))
        for thing in WRONG + ((1,), (1, 2, 3), (1, True), [1, 2], (1, ODD)):
            self.bad(BadWorld, thing, read_in, AB, LINE, ALL, thing)
        for thing in WRONG + ("w", ["x"], ("x",), "hut", "X", "xx"):
            self.bad(BadPart, thing, on_always, AB, LINE, ALL, thing)
            self.bad(BadPart, thing, check_always, AB, LINE, ALL, thing, None)


class Always(Refusals):
    def no(self, part, frame, layout, ask, name, paper):
        self.refused(BadPaper, {"part": part}, check_always, frame, layout, ask, name, paper)

    def test_papers_hold(self):
        words = set()
        for frame, layout, ask in tried():
            for part, (word, _) in reads(frame, layout, ask).items():
                paper = on_always(frame, layout, ask, part)
                self.assertEqual(paper[0], "closed" if word == "always" else "row")
                self.assertEqual(check_always(frame, layout, ask, part, paper), paper[0])
                self.assertTrue(holds_plainly(frame, hits(frame, layout, ask, part), paper))
                words.add(paper[0])
        self.assertEqual(words, {"row", "closed"})

    def test_all_papers_of_small_frames(self):
        told = set()
        for frame in few_frames()[:6] + [(("a", "b", "c"), (("a", "ahead", "b"),))]:
            every = cuts(frame)
            for at, layout in enumerate([one for one in any_layouts(frame, 12, 5) if one and has_map(frame, one)][:4]):
                for ask in asks_to_try(frame, 2, at) + [ALL]:
                    part = layout[0][0]
                    hit = hits(frame, layout, ask, part)
                    for many in range(min(len(every), 6) + 1):
                        for some in list(combinations(every, many))[:60]:
                            for paper in (("row", some), ("closed", some), ("closed", some[::-1])):
                                is_so = holds_plainly(frame, hit, paper)
                                told.add((paper[0], is_so))
                                if is_so:
                                    self.assertEqual(check_always(frame, layout, ask, part, paper), paper[0])
                                else:
                                    self.no(paper[0], frame, layout, ask, part, paper)
        self.assertEqual(len(told), 4)

    def test_some(self):
        frame = (("a", "b"), (("a", "ahead", "b"),))
        between = (("m", "a", "b", "h"),)
        self.assertEqual(on_always(frame, between, ALL, "m"), ("closed", ((),)))
        self.assertEqual(check_always(frame, between, ALL, "m", ("closed", ((),))), "closed")
        self.no("closed", frame, between, ALL, "m", ("closed", ()))
        self.no("closed", frame, between, ALL, "m", ("closed", ((), ("a",))))
        self.no("closed", frame, between, ALL, "m", ("closed", ((), ("a", "b"))))
        self.no("closed", frame, between, ALL, "m", ("closed", ((), ())))
        self.no("row", frame, between, ALL, "m", ("row", ((), ("a", "b"))))
        self.no("row", frame, between, ALL, "m", ("row", ((), ("a",), ("a", "b"))))
        self.assertEqual(on_always(AB, LINE, ALL, "x"), ("closed", ()))
        self.no("closed", AB, LINE, ALL, "x", ("closed", ((),)))
        # CUTs to which no ROW comes may be among the closed ones, if what comes behind them is, too.
        self.assertEqual(check_always(AB, LINE, ALL, "x", ("closed", ())), "closed")
        self.no("closed", AB, LINE, ALL, "x", ("closed", (("a",),)))
        self.no("row", AB, LINE, ALL, "y", ("row", ((), ("a",), ("a", "b"))))
        for row in (((), ("b",), ("a", "b")), ((), ("a", "b"))):
            self.assertEqual(check_always(AB, LINE, ALL, "y", ("row", row)), "row")
        for row in ((), ((),), (("a", "b"),), ((), ("b",)), (("b",), ("a", "b")), ((), (), ("a", "b")), (("a", "b"), ())):
            self.no("row", AB, LINE, ALL, "y", ("row", row))

    def test_wrong_forms(self):
        papers = WRONG + (("row",), ("row", (), ()), ["row", ()], ("Row", ()), ("row", [()]), ("closed", [()]), ("row", (("c",),)),
                          ("row", (("b", "a"),)), ("closed", (("a", "a"),)), ("closed", (["a"],)), ("closed", ("a",)), ("row", None),
                          ("closed", (None,)), ("row", (ODD,)), (ODD, ()), ("closed", ODD), ("row", ((), ODD)), ("closed", {}))
        for paper in papers:
            self.no("form", AB, LINE, ALL, "x", paper)

    def test_rows_are_those_of_worlds(self):
        for frame in few_frames():
            layout = (("p", "-", frame[0][0], "h"), ("q", frame[0][0], "+", "h"))
            for world in worlds_of(frame):
                row = row_of(frame, world)
                is_read = "q" in read_in(frame, layout, ("from", frame[0][-1]), world)
                paper = ("row", row)
                if is_read:
                    self.no("row", frame, layout, ("from", frame[0][-1]), "q", paper)
                else:
                    self.assertEqual(check_always(frame, layout, ("from", frame[0][-1]), "q", paper), "row")


def holds_plainly(frame, hit, paper):
    """Whether a paper, right by its form, holds: by the words of the document."""
    word, some = paper
    if any(cut in hit for cut in some):
        return False
    if word == "row":
        return is_row(frame, some)
    if list(some) != [cut for cut in cuts(frame) if cut in some] or len(set(some)) != len(some) or frame[0] in some:
        return False
    if () not in some and () not in hit:
        return False
    nexts = {(one, other) for world in worlds_of(frame) for one, other in zip(row_of(frame, world), row_of(frame, world)[1:])}
    return all(other in some or other in hit for one, other in nexts if one in some)

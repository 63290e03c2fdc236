from namedcuts.asks import asked_cuts, asks_apart, is_asked, need_ask, stretches
from namedcuts.cuts import cut_of, cuts
from namedcuts.errors import BadAsk, BadCut, BadFrame
from namedcuts.terms import has, normal
from plain import up_term
from plain_asks import asks_for, asks_to_try
from refusals import Refusals
from trials import ODD, WRONG, few_frames, keys_of, nested, worlds_of

AB = (("a", "b"), ())
FULL = ("least", *[("greatest", *["a"] * 30)] * 10)


def nots(many, inner=("all",)):
    for _ in range(many):
        inner = ("not", inner)
    return inner


def asks_with(many):
    """An ask with so many in all, none deep."""
    left = many - 1
    inner = []
    while left > 0:
        inner.append(min(left, 7))
        left -= inner[-1]
    return ("and", tuple(("or", (("all",),) * (count - 1)) for count in inner))


def count(ask):
    return 1 + (0 if ask[0] not in ("not", "and", "or") else sum(map(count, ask[1] if ask[0] != "not" else ask[1:])))


class Asks(Refusals):
    def test_what_is_an_ask(self):
        for ask in (("from", "a"), ("ahead", ("least", "a", "+")), ("all",), ("none",), ("not", ("all",)), ("and", ()), ("or", ()),
                    ("and", (("all",),)), ("or", (("from", "a"),) * 6), nots(4), nots(3, ("and", ())), nots(4, ("or", ())),
                    ("and", (("or", (("and", (nots(1),)),)),)), asks_with(40), ("from", FULL), ("ahead", "-"), ("from", "+"),
                    nots(3, ("not", ("from", "b")))):
            self.assertIs(need_ask(AB, ask), ask)

    def test_bounds(self):
        self.assertEqual((count(asks_with(40)), count(asks_with(41))), (40, 41))
        for ask in (nots(5), nots(6), nots(5, ("and", ())), nots(4, ("not", ("from", "a"))), ("and", (nots(4),)), asks_with(41),
                    ("and", (("all",),) * 7), ("or", (("none",),) * 7), ("not", asks_with(40)), nots(5000),
                    ("from", ("least", FULL, "a")), ("and", (("all",),) * 5000)):
            self.bad(BadAsk, ask, need_ask, AB, ask)
        ask = ("or", ())
        for _ in range(30):
            ask = ("and", (ask,) * 6)
        self.bad(BadAsk, ask, need_ask, AB, ask)

    def test_asks_of_anything(self):
        asks = list(WRONG) + [("not", thing) for thing in WRONG] + [("and", (("all",), thing)) for thing in WRONG]
        asks += [("or", thing) for thing in WRONG if thing != ()] + [(thing,) for thing in WRONG] + [(thing, "a") for thing in WRONG]
        asks += [("from", thing) for thing in WRONG if thing != "a"]
        asks += [["all"], ("all", ()), ("none", "a"), ("from",), ("from", "a", "b"), ("from", "c"), ("ahead", ("least",)), "all",
                 ("ahead", ["a"]), ("from", ("lo", "x")), ("and",), ("and", [("all",)]), ("or", ("all",)), ("not",), ("not", "all"),
                 ("not", ("all",), ("all",)), ("And", ()), ("and", (("all",), ["none"])), ("nor", ()), (ODD,), (ODD, ()),
                 ("not", nested(4000)), ("from", nested(4000)), ("or", (("from", "c"),))]
        for ask in asks:
            for call in (need_ask, asked_cuts, stretches):
                self.bad(BadAsk, ask, call, AB, ask)
            self.bad(BadAsk, ask, is_asked, AB, ask, None)
            self.bad(BadAsk, ask, asks_apart, AB, ask, None)
            self.bad(BadAsk, ask, asks_apart, AB, ("all",), ask)

    def test_errors_in_order(self):
        self.in_order(is_asked, (AB, ("all",), ()), ((0, None, BadFrame), (1, None, BadAsk), (2, None, BadCut)))
        self.in_order(asks_apart, (AB, ("all",), ("all",)), ((0, None, BadFrame), (1, None, BadAsk), (2, None, BadAsk)))
        for call in (need_ask, asked_cuts, stretches):
            self.in_order(call, (AB, ("all",)), ((0, None, BadFrame), (1, None, BadAsk)))
        for cut in WRONG + (("b", "a"), ["a"], ("c",)):
            if not (isinstance(cut, tuple) and cut in ((), ("a",))):
                self.bad(BadCut, cut, is_asked, AB, ("all",), cut)

    def test_keys_in_all_worlds(self):
        for at, frame in enumerate(few_frames()):
            for ask in asks_to_try(frame, 12, at):
                asked = {cut: is_asked(frame, ask, cut) for cut in cuts(frame)}
                self.assertEqual(asked_cuts(frame, ask), tuple(cut for cut in cuts(frame) if asked[cut] is True))
                self.assertLessEqual(set(asked.values()), {True, False})
                for world in worlds_of(frame):
                    for key in keys_of(world):
                        is_so = asks_for(ask, dict(zip(frame[0], world)), key)
                        self.assertIs(asked[cut_of(frame, world, key)], is_so)

    def test_some(self):
        for ask, some in ((("all",), cuts(AB)), (("none",), ()), (("and", ()), cuts(AB)), (("or", ()), ()), (("not", ("or", ())), cuts(AB)),
                          (("from", "a"), (("a",), ("a", "b"))), (("ahead", "a"), ((), ("b",))), (("from", "-"), cuts(AB)),
                          (("from", "+"), ()), (("ahead", "-"), ()), (("ahead", "+"), cuts(AB)), (("not", ("from", "b")), ((), ("a",))),
                          (("and", (("from", "a"), ("ahead", "b"))), (("a",),)), (("or", (("ahead", "a"), ("from", "b"))), ((), ("b",), ("a", "b")))):
            self.assertEqual(asked_cuts(AB, ask), some)

    def test_asks_that_are_alike(self):
        for at, frame in enumerate(few_frames()):
            asks = asks_to_try(frame, 10, at + 40)
            for one in asks:
                for other in asks + [("not", ("not", one)), ("and", (one, one))]:
                    apart = [cut for cut in cuts(frame) if is_asked(frame, one, cut) != is_asked(frame, other, cut)]
                    self.assertEqual(asks_apart(frame, one, other), apart[0] if apart else None)
        self.assertEqual(asks_apart(AB, ("from", "a"), ("from", "b")), ("a",))
        self.assertEqual(asks_apart(AB, ("all",), ("none",)), ())
        self.assertIsNone(asks_apart((("a", "b"), (("a", "upto", "b"),)), ("from", "b"), ("and", (("from", "b"), ("from", "a")))))


def stretches_plainly(frame, ask):
    """As the document tells each F and T, each time of all cuts."""
    every = cuts(frame)
    asked = [cut for cut in every if is_asked(frame, ask, cut)]

    def above(some):
        return [cut for cut in every if any(set(low) <= set(cut) for low in some)]
    found = []
    begin = above(asked)
    while begin:
        end = above([cut for cut in begin if cut not in asked])
        found.append((normal(frame, up_term(begin)), normal(frame, up_term(end))))
        begin = above([cut for cut in end if cut in asked])
    return tuple(found)


def longest(frame, ask):
    """The most asked cuts that stand in a row of cuts within one another, with one that is not asked between each two."""
    best = {}
    for cut in cuts(frame):
        inner = [one for one in best if set(one) < set(cut)]
        free = max([best[one][0] for one in inner if not is_asked(frame, ask, one)], default=0)
        most = max([best[one][0] for one in inner], default=0)
        best[cut] = (max(most, free + 1) if is_asked(frame, ask, cut) else most,)
    return max(many for many, in best.values())


class Stretches(Refusals):
    def test_stretches(self):
        seen = set()
        for at, frame in enumerate(few_frames()):
            ends = ("or", (("ahead", ("least", *frame[0])), ("from", ("greatest", *frame[0]))))
            for ask in asks_to_try(frame, 25, at + 80) + [ends]:
                found = stretches(frame, ask)
                self.assertEqual(found, stretches_plainly(frame, ask))
                self.assertEqual(len(found), longest(frame, ask))
                seen.add(len(found))
                for cut in cuts(frame):
                    held = [has(frame, cut, low) and not has(frame, cut, high) for low, high in found]
                    self.assertIs(any(held), is_asked(frame, ask, cut))
        self.assertEqual(seen, {0, 1, 2})

    def test_some(self):
        for ask, found in ((("none",), ()), (("all",), (("-", "+"),)), (("from", "a"), (("a", "+"),)), (("ahead", "a"), (("-", "a"),)),
                           (("and", (("from", "a"), ("ahead", "b"))), (("a", ("greatest", "a", "b")),)),
                           (("or", (("ahead", ("least", "a", "b")), ("from", ("greatest", "a", "b")))),
                            (("-", ("least", "a", "b")), (("greatest", "a", "b"), "+"))),
                           (("not", ("from", ("least", "b", ("greatest", "a", "b")))), (("-", "b"),))):
            self.assertEqual(stretches(AB, ask), found)

    def test_up_to_four(self):
        names = tuple("abcdefg")
        line = (names, tuple((one, "upto", other) for one, other in zip(names, names[1:])))
        for many in range(1, 5):
            pairs = list(zip("aceg", "bdf+"))[:many]
            ask = ("or", tuple(("and", (("from", low), ("ahead", high))) for low, high in pairs))
            self.assertEqual(stretches(line, ask), tuple(pairs))
            self.assertEqual(len(stretches((names, ()), ask)), longest((names, ()), ask))
        # ASKED is each CUT with an even number of NAMEs: four STRETCHES, which is the most.
        ask = ("or", tuple(("and", (("from", low), ("ahead", high))) for low, high in zip(("-", *"bdf"), "aceg")))
        self.assertEqual(stretches(line, ask), (("-", "a"), ("b", "c"), ("d", "e"), ("f", "g")))

    def test_large_frames(self):
        frame = (tuple("abcdefg"), (("a", "upto", "b"), ("c", "ahead", "d")))
        for ask in asks_to_try(frame, 20, 5):
            self.assertEqual(stretches(frame, ask), stretches_plainly(frame, ask))
            self.assertEqual(len(stretches(frame, ask)), longest(frame, ask))

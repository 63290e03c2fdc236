import unittest
from itertools import permutations

from namedcuts.errors import BadFrame, BadLayout, BadPaper, BadQuestion
from namedcuts.layouts import chain_paper, check_chain, empty, is_chain, is_right
from plain import all_cuts, any_layouts, lies_in, part_with, right_layouts
from trials import ODD, WRONG, few_frames, keys_of, worlds_of

FREE = (("p", "q", "r"), ())
LOTS = {"x": [("p",), ("q", "r")], "y": [("r",), ("p", "q")]}
REST = [cut for cut in all_cuts(FREE) if cut not in LOTS["x"] + LOTS["y"]]
# The example of the document: x and y, and a part for each other cut.
EXAMPLE = tuple(sorted([part_with(name, all_cuts(FREE), lot) for name, lot in LOTS.items()]
                       + [part_with("z" + "abcd"[at], all_cuts(FREE), [cut]) for at, cut in enumerate(REST)]))
# In six names three parts in a ring, no two of which are one.
SIX = (tuple("abcdef"), ())
RING = {"x": [("a",), ("e", "f")], "y": [("c",), ("a", "b")], "z": [("e",), ("c", "d")]}
LEFT = [cut for cut in all_cuts(SIX) if cut not in RING["x"] + RING["y"] + RING["z"]]
SIZES = {"k": (0,), "l": (1,), "m": (2,), "n": (3, 4, 5, 6)}
THREE = tuple(sorted([part_with(name, all_cuts(SIX), lot) for name, lot in RING.items()] + [
    part_with(name, all_cuts(SIX), [cut for cut in LEFT if len(cut) in sizes]) for name, sizes in SIZES.items()]))
# Two parts in a ring, where the first cut of x is not within the cut of y that has one of x within.
FOUR = (tuple("pqrs"), ())
TURN = {"x": [("p",), ("q",), ("r", "s")], "y": [("s",), ("q", "r")], "k": [()], "l": [("r",)],
        "m": [("p", "q"), ("p", "r"), ("p", "s"), ("q", "s")], "n": [cut for cut in all_cuts(FOUR) if len(cut) > 2]}
PAIR = tuple(sorted(part_with(name, all_cuts(FOUR), lot) for name, lot in TURN.items()))
ABC = (("a", "b", "c"), (("a", "upto", "b"), ("b", "upto", "c")))
LINE = (("k", "b", "c", "h"), ("l", "c", "+", "h"), ("m", "-", "a", "h"), ("n", "a", "b", "h"), ("o", "b", "a", "h"))
ORDER = ("m", "n", "k", "l")
WRONG_WAY = (("k", "a", "+", "h"), ("l", "-", "b", "h"))


def tried():
    for at, frame in enumerate(few_frames() + [FREE, (tuple("abcd"), (("a", "upto", "b"),))]):
        yield frame, right_layouts(frame, 12, at + 40)


def is_in_order(frame, layout, names):
    """Whether in all worlds the keys of each part are less than those of all behind it."""
    parts = {part[0]: part for part in layout}
    for world in worlds_of(frame):
        values = dict(zip(frame[0], world))
        keys = [[key for key in keys_of(world) if lies_in(parts[name], values, key)] for name in names]
        flat = [key for some in keys for key in some]
        if flat != sorted(flat):
            return False
    return True


class Chains(unittest.TestCase):
    def refused(self, part, frame, layout, paper):
        with self.assertRaises(BadPaper) as caught:
            check_chain(frame, layout, paper)
        self.assertEqual(caught.exception.part, part, (frame, layout, paper))

    def test_chains_by_all_orders(self):
        words = set()
        for frame, layouts in tried():
            for layout in layouts:
                names = [part[0] for part in layout if empty(frame, part) != "always"]
                word, shown = chain_paper(frame, layout)
                words.add(word)
                self.assertIs(is_chain(frame, layout), word == "chain")
                self.assertEqual(check_chain(frame, layout, (word, shown)), word)
                if word == "chain":
                    self.assertEqual(sorted(shown), names)
                    self.assertTrue(is_in_order(frame, layout, shown))
                elif len(names) <= 4:
                    self.assertFalse(any(is_in_order(frame, layout, order) for order in permutations(names)))
                if word == "ring":
                    self.shows_ring(frame, layout, shown)
        self.assertEqual(words, {"chain", "ring"})

    def shows_ring(self, frame, layout, links):
        parts = {part[0]: part for part in layout}
        self.assertGreaterEqual(len(links), 2)
        self.assertEqual(len({name for name, _, _ in links}), len(links))
        for at, (name, cut, other) in enumerate(links):
            behind = links[(at + 1) % len(links)][0]
            self.assertTrue(set(cut) <= set(other))
            for part, inside in ((parts[name], cut), (parts[behind], other)):
                values = {one: 0 if one in inside else 2 for one in frame[0]}
                self.assertTrue(lies_in(part, values, 1))

    def test_all_orders_of_a_chain(self):
        for frame, layouts in tried():
            for layout in layouts:
                names = [part[0] for part in layout if empty(frame, part) != "always"]
                for order in list(permutations(names))[:24]:
                    if is_in_order(frame, layout, order):
                        self.assertEqual(check_chain(frame, layout, ("chain", order)), "chain")
                    else:
                        self.refused("chain", frame, layout, ("chain", order))

    def test_the_example_is_right_and_no_chain(self):
        self.assertIs(is_right(FREE, EXAMPLE), True)
        self.assertIs(is_chain(FREE, EXAMPLE), False)
        word, shown = chain_paper(FREE, EXAMPLE)
        self.assertEqual((word, sorted(link[0] for link in shown)), ("ring", ["x", "y"]))
        parts = {part[0]: part for part in EXAMPLE}
        for world, names in (((1, 2, 3), ["x", "y"]), ((3, 2, 1), ["y", "x"])):
            values = dict(zip(FREE[0], world))
            self.assertEqual(sorted(names, key=lambda name: [key for key in range(5) if lies_in(parts[name], values, key)]),
                             names)

    def test_some_chains(self):
        self.assertIs(is_chain(ABC, LINE), True)
        self.assertEqual(chain_paper(ABC, LINE), ("chain", ORDER))
        self.assertIs(is_chain(FREE, (("x", "-", "+", "h"),)), True)
        self.assertEqual(chain_paper(FREE, (("x", "-", "+", "h"),)), ("chain", ("x",)))
        # The two are not always empty together, but no key of x is behind one of y.
        layout = (("x", "-", "p", "h"), ("y", "p", "+", "h"))
        self.assertEqual(chain_paper(FREE, layout), ("chain", ("x", "y")))

    def test_what_is_not_right(self):
        for frame, layout in ((FREE, ()), (FREE, (("x", "-", "p", "h"),)), (ABC, LINE[1:]), (ABC, WRONG_WAY),
                              (FREE, (("x", "-", "+", "h"), ("y", "-", "+", "h")))):
            self.assertIs(is_chain(frame, layout), False)
            self.assertRaises(BadQuestion, chain_paper, frame, layout)
        for at, frame in enumerate(few_frames()):
            for layout in any_layouts(frame, 10, at):
                if not is_right(frame, layout):
                    self.assertIs(is_chain(frame, layout), False)
                    self.assertRaises(BadQuestion, chain_paper, frame, layout)

    def test_orders_that_do_not_hold(self):
        self.assertEqual(check_chain(ABC, LINE, ("chain", ORDER)), "chain")
        for at in range(4):
            self.refused("chain", ABC, LINE, ("chain", ORDER[:at] + ORDER[at + 1:]))
            self.refused("chain", ABC, LINE, ("chain", ORDER[:at] + ("o",) + ORDER[at:]))
            self.refused("chain", ABC, LINE, ("chain", ORDER[:at] + (ORDER[at],) + ORDER[at:]))
            self.refused("chain", ABC, LINE, ("chain", ORDER[:at] + ("z",) + ORDER[at + 1:]))
            for other in range(at):
                order = list(ORDER)
                order[at], order[other] = order[other], order[at]
                self.refused("chain", ABC, LINE, ("chain", tuple(order)))
        for names in ((), ("",), ("m", "n", "k", "l", "o"), ("M", "n", "k", "l")):
            self.refused("chain", ABC, LINE, ("chain", names))
        for order in permutations(part[0] for part in EXAMPLE):
            if order[0] == "za" and order[-1] == "zd":
                self.refused("chain", FREE, EXAMPLE, ("chain", order))

    def test_rings_that_do_not_hold(self):
        first, second = ("x", ("p",), ("p", "q")), ("y", ("r",), ("q", "r"))
        links = (first, second)
        self.assertEqual(check_chain(FREE, EXAMPLE, ("ring", links)), "ring")
        self.assertEqual(check_chain(FREE, EXAMPLE, ("ring", (second, first))), "ring")
        for wrong in ((), (first,), (second,), (first, second, first), (first, second) * 2, (first, first),
                      (first, ("y", ("q", "r"), ("r",))), (("x", ("p", "q"), ("p",)), second),
                      (("y", ("p",), ("p", "q")), second), (("x", ("p",), ("p", "q")), ("x", ("r",), ("q", "r"))),
                      (("y", ("p",), ("p", "q")), ("x", ("r",), ("q", "r"))), (first, ("y", ("r",), ("p", "r"))),
                      (first, ("y", ("r",), ("p", "q", "r"))), (("x", ("q",), ("p", "q")), second),
                      (("x", (), ("p", "q")), second), (("x", ("p",), ("p",)),), (("x", ("q", "r"), ("p", "q")), second),
                      (first, ("y", ("p", "q"), ("q", "r"))), (("x", ("p",), ("q", "r")), second),
                      (("z", ("p",), ("p", "q")), second), (first, ("", ("r",), ("q", "r"))),
                      (("x", ("q", "p"), ("p", "q")), second), (first, ("y", ("r",), ("r", "q"))),
                      (first, ("y", ("s",), ("q", "r"))), (first, ("y", (1,), ("q", "r"))), (first, ("y", ("r", "r"), ("q", "r"))),
                      (first, ("y", ("r",), (None,))), (first, ("y", (ODD,), (ODD,)))):
            self.refused("ring", FREE, EXAMPLE, ("ring", wrong))
        self.refused("ring", ABC, LINE, ("ring", links))
        self.refused("ring", ABC, LINE, ("ring", ()))

    def test_a_round_of_three_goes_one_way(self):
        word, shown = chain_paper(SIX, THREE)
        self.assertEqual((word, len(shown)), ("ring", 3))
        self.assertIs(is_chain(SIX, THREE), False)
        links = (("x", ("a",), ("a", "b")), ("y", ("c",), ("c", "d")), ("z", ("e",), ("e", "f")))
        for at in range(3):
            self.assertEqual(check_chain(SIX, THREE, ("ring", shown[at:] + shown[:at])), "ring")
            self.assertEqual(check_chain(SIX, THREE, ("ring", links[at:] + links[:at])), "ring")
        self.refused("ring", SIX, THREE, ("ring", links[::-1]))
        self.refused("ring", SIX, THREE, ("ring", shown[::-1]))
        for at in range(3):
            name, cut, other = links[at]
            self.refused("ring", SIX, THREE, ("ring", links[:at] + ((name, other, cut),) + links[at + 1:]))
            self.refused("ring", SIX, THREE, ("ring", links[:at] + links[at + 1:]))
            self.refused("ring", SIX, THREE, ("ring", links[:at] + (links[at],) + links[at:]))
            self.refused("ring", SIX, THREE, ("ring", (links[at],)))

    def test_the_cuts_of_a_link_are_one_within_the_other(self):
        word, shown = chain_paper(FOUR, PAIR)
        self.assertEqual((word, set(shown)), ("ring", {("x", ("q",), ("q", "r")), ("y", ("s",), ("r", "s"))}))
        self.assertEqual(check_chain(FOUR, PAIR, ("ring", shown)), "ring")
        self.refused("ring", FOUR, PAIR, ("ring", (("x", ("p",), ("q", "r")), ("y", ("s",), ("r", "s")))))
        # The same with a name that all cuts have but one.
        frame = (tuple("pqrst"), tuple(("t", "upto", name) for name in "pqrs"))
        lots = {name: [cut + ("t",) for cut in lot] for name, lot in TURN.items()}
        lots["j"] = [()]
        layout = tuple(sorted(part_with(name, all_cuts(frame), lot) for name, lot in lots.items()))
        word, shown = chain_paper(frame, layout)
        self.assertEqual((word, set(shown)), ("ring", {("x", ("q", "t"), ("q", "r", "t")), ("y", ("s", "t"), ("r", "s", "t"))}))
        self.refused("ring", frame, layout, ("ring", (("x", ("p", "t"), ("q", "r", "t")), ("y", ("s", "t"), ("r", "s", "t")))))

    def test_wrong_forms(self):
        link = ("x", ("p",), ("p", "q"))
        papers = WRONG + (("chain",), ("chain", ORDER, ()), ["chain", ORDER], ("chain", list(ORDER)), ("chain", "mnkl"),
                          ("chain", (1,)), ("chain", (None,)), ("chain", (b"m",)), ("chain", (("m",),)), ("Chain", ORDER),
                          ("chain", (ODD,)), (ODD, ORDER), (b"chain", ORDER), ("ring", [link, link]), ("ring", link),
                          ("ring", (link, None)), ("ring", (("x", ("p",)), link)), ("ring", (link + ((),),)),
                          ("ring", (list(link), link)), ("ring", ((1, (), ()),)), ("ring", (("x", ["p"], ("p", "q")),)),
                          ("ring", (("x", ("p",), ["p", "q"]),)), ("ring", (("x", "p", ("p", "q")),)), ("ring", ODD),
                          ("ring", (ODD,)), ("chain", (link,)), ("ring", ("x", "y")), ("", ()), ("world", (1,)))
        for paper in papers:
            self.refused("form", ABC, LINE, paper)
            self.refused("form", FREE, EXAMPLE, paper)
            self.refused("form", ABC, (), paper)

    def test_the_question_comes_last(self):
        two = (("x", "-", "+", "h"), ("y", "-", "+", "h"))
        for paper in (("chain", ("x", "y")), ("chain", ("y", "x")), ("chain", ("x",)), ("chain", ())):
            self.refused("chain", FREE, two, paper)
        self.assertRaises(BadQuestion, check_chain, FREE, (), ("chain", ()))
        self.assertRaises(BadQuestion, check_chain, ABC, LINE[1:], ("chain", ("m", "n", "l")))
        self.refused("chain", ABC, LINE[1:], ("chain", ("n", "m", "l")))
        self.assertRaises(BadQuestion, check_chain, FREE, EXAMPLE[:2], ("ring", (("x", ("p",), ("p", "q")), ("y", ("r",), ("q", "r")))))
        self.refused("ring", FREE, EXAMPLE[:2], ("ring", (("x", ("p",), ("p", "q")), ("y", ("r",), ("p", "r")))))

    def test_frame_and_layout_come_first(self):
        for call in (is_chain, chain_paper):
            self.assertRaises(BadFrame, call, ((), ()), None)
        self.assertRaises(BadFrame, check_chain, ((), ()), None, None)
        for thing in WRONG:
            if thing == () and isinstance(thing, tuple):
                continue
            for call in (is_chain, chain_paper, lambda frame, layout: check_chain(frame, layout, None)):
                with self.assertRaises(BadLayout):
                    call(FREE, thing)

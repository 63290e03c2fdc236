from random import Random

from namedcuts.desk import Desk
from namedcuts.errors import BadFrame, BadText
from namedcuts.store import Store
from refusals import Refusals
from test_store import state_of
from test_texts import nested_term
from trials import WRONG

FREE = "name a\nname b\nname c\nfact a upto b"
MOST = 10 ** 18


def desk_with(*lines):
    desk = Desk(FREE)
    for line in lines:
        assert desk.say(line) != "no", line
    return desk


class Desks(Refusals):
    def say(self, desk, *told):
        for line, answer in told:
            self.assertEqual((line, desk.say(line)), (line, answer))

    def refuses(self, desk, lines):
        """That lines are refused, and change nothing, not even what can be done again."""
        before, ahead = state_of(desk.store), desk.store.copy()
        for line in lines:
            self.assertEqual((line, desk.say(line)), (line, "no"))
            self.assertEqual(state_of(desk.store), before)
            self.assertEqual(desk.store.copy().redo(), ahead.copy().redo())

    def test_each_line(self):
        desk = Desk(FREE)
        self.say(desk, ("parts", "all"), ("edition", "0"), ("undo", "nothing"), ("redo", "nothing"), ("stale 0", "none"),
                 ("reached 5", "none"), ("bind a -5", "done"), ("bind b 20", "done"), ("bind c 1000000000000000000", "done"),
                 ("reached -5", "a"), ("reached 20", "a b"), ("reached -6", "none"), ("home 0", "all"),
                 ("split all at least(b, greatest(a, c)) as low high", "done"), ("parts", "high low"),
                 ("edition", "1"), ("put 5 five", "low"), ("put -7 minus seven", "low"), ("put 20 ", "high"),
                 ("ask -100 100", "-7:minus seven; 5:five; 20:"), ("ask 5 6", "5:five"), ("ask 6 5", "none"),
                 ("reads -100 100", "low high"), ("reads 20 21", "high"), ("reads 5 5", "none"), ("take 5", "five"),
                 ("take 20", ""), ("undo", "done"), ("redo", "done"), ("redo", "nothing"), ("move low to hut", "done"),
                 ("shift low high to a", "done"), ("home -5", "high"), ("call low p", "done"), ("off p", "done"),
                 ("home -7", "none"), ("stale 0", "- to +"), ("stale 1", "- to 20"), ("stale 4", "- to -5"),
                 ("stale 5", "none"), ("on p from - to lo(high) in shed", "done"), ("ask -9 9", "-7:minus seven"),
                 ("join p high as all", "done"), ("parts", "all"), ("stale 0", "none"), ("edition", "7"))
        self.assertEqual(desk.store.ranges, (("all", "-", "+", "shed"),))
        self.assertIsInstance(desk.store, Store)

    def test_stale_of_several(self):
        desk = desk_with("bind a 1", "bind b 5", "bind c 9", "split all at a as x y", "split y at b as y z",
                         "split z at c as u v", "call y w", "join u v as z")
        self.say(desk, ("stale 0", "- to +"), ("stale 1", "1 to +"), ("stale 2", "1 to 5"), ("stale 3", "1 to +"),
                 ("edition", "5"))
        self.say(desk_with("bind a 1", "bind b 5", "bind c 9", "split all at a as x y", "split y at b as y z", "call x p",
                           "call z q"), ("stale 2", "- to 1; 5 to +"), ("stale 3", "5 to +"))

    def test_texts(self):
        desk = Desk(FREE)
        for text in ("", " ", "  x  ", "x" * 100, "no", "none", "a  b", "; 5:"):
            self.say(desk, (f"put 7 {text}", "all"), ("ask 7 8", f"7:{text}"), ("take 7", text))
        self.refuses(desk, ["put 7", "put 7x", "put  7 x", "put 7 " + "x" * 101, "put 7 a\nb", "put 7 \n", "put", "put ",
                            "put 7\n"])

    def test_parts_and_texts_with_words_that_are_answers(self):
        desk = desk_with("bind a 0", "split all at a as none no")
        self.say(desk, ("put -1 no", "none"), ("put 1 none", "no"), ("home -1", "none"), ("home 1", "no"), ("put 2 x", "no"), ("parts", "no none"),
                 ("reads -5 5", "none no"), ("take -1", "no"), ("take 1", "none"), ("ask -9 9", "2:x"), ("take 1", "no"))

    def test_spaces_and_words(self):
        desk = desk_with("bind a 0", "bind b 1")
        lines = ["parts", "edition", "undo", "home 5", "reached 5", "ask 1 2", "reads 1 2", "stale 0", "take 5",
                 "bind c 5", "split all at least(a, b) as p q", "move all to hut", "call all q", "off all",
                 "on p from a to b in hut", "join p q as r", "shift p q to a"]
        spoilt = []
        for line in lines:
            spoilt += [" " + line, line + " ", line + "\n", "\n" + line, line.upper(), line + " 1", line[:-1] + "!"]
            spoilt += [line[:at] + " " + line[at:] for at in range(len(line)) if line[at] == " "]
            spoilt += [line[:at] + "\n" + line[at + 1:] for at in range(len(line)) if line[at] == " "]
            spoilt += [line[:at] + line[at + 1:] for at in range(len(line)) if line[at] == " "]
        self.refuses(desk, spoilt + ["", " ", "\n", "need a upto b", "if a upto b", "else", "end", "ranges", "split",
                                     "split all at least(a,b) as p q", "split all at least(a , b) as p q"])

    def test_numbers(self):
        desk = desk_with("put 0 zero", "put 7 seven")
        for number in ("07", "00", "-0", "-07", "+7", "7.0", "--7", "-", "", "0x7", "7-"):
            self.refuses(desk, [f"home {number}", f"put {number} x", f"take {number}", f"bind a {number}",
                                f"reached {number}", f"ask {number} 9", f"ask 0 {number}", f"reads {number} 9"])
        # 19 figures can be written, but greater numbers than 10 ** 18 are none; 20 cannot.
        self.say(desk, (f"home {MOST}", "all"), (f"home -{MOST}", "all"), (f"ask -{MOST} {MOST}", "0:zero; 7:seven"))
        self.refuses(desk, [f"home {MOST + 1}", f"home -{MOST + 1}", "home " + "9" * 19, f"home {MOST}0", f"home -{MOST}0",
                            f"put {MOST}0 x", f"bind a {MOST}0", "put " + "0" * 19 + "7 x", f"ask 0 {MOST + 1}"])
        self.say(desk, (f"put -{MOST} x", "all"), ("home 999999999999999999", "all"))

    def test_editions(self):
        desk = desk_with(*["move all to hut"] * 120)
        self.say(desk, ("edition", "120"), ("stale 120", "none"), ("stale 0", "none"), ("stale 99", "none"))
        self.refuses(desk, ["stale 121", "stale 00", "stale 012", "stale -1", "stale -0", "stale 0120", "stale 1200", "stale",
                            "stale ", "stale a", "stale 999"])

    def test_four_figures_cannot_be_written(self):
        desk = desk_with(*["move all to hut"] * 1001)
        self.say(desk, ("edition", "1001"), ("stale 999", "none"))
        self.refuses(desk, ["stale 1000", "stale 1001"])

    def test_what_is_refused_changes_nothing(self):
        desk = desk_with("bind a 5", "split all at a as p q", "put 1 one", "off q", "put 2 two", "undo")
        self.refuses(desk, ["bind a 6", "bind b 4", "bind z 1", "bind abcdefg 1", "bind b", "split p at b as p r",
                            "split p at z as p r", "split p at a as p p", "join p p as r", "join p q as p", "move q to hut",
                            "move p to Hut", "call p p", "off q", "on p from a to + in hut", "on r from - to + in hut",
                            "shift p p to a", "put 9 x", "take 9", "take 2", "off lo(p)", "split p at lo(q) as p r",
                            f"split p at {nested_term(21)} as p r"])
        self.say(desk, ("redo", "done"), ("take 2", "two"))
        self.assertEqual(desk.say(f"split p at {nested_term(20)} as p r"), "done")

    def test_no_strings(self):
        desk = desk_with("put 1 x")
        self.refuses(desk, [thing for thing in WRONG if not isinstance(thing, str)] + [b"parts", ["parts"], ("parts",)])

    def test_the_text_that_it_is_made_with(self):
        for text in WRONG:
            if not isinstance(text, str):
                self.refused(BadText, {"line": -1, "place": -1}, Desk, text)
        for text, found in (("", (0, 0)), ("name a\n", (1, 0)), ("name a\nname B", (1, 5)), ("fact a upto b", (0, 0))):
            self.refused(BadText, dict(zip(("line", "place"), found)), Desk, text)
        self.refused(BadFrame, {"part": "names", "number": 1}, Desk, "name b\nname a")
        self.refused(BadFrame, {"part": "ring", "number": None}, Desk,
                     "name a\nname b\nfact a ahead b\nfact b upto a")
        self.assertEqual(Desk(FREE).store.base, (("a", "b", "c"), (("a", "upto", "b"),)))

    def test_by_chance_nothing_but_answers(self):
        chance = Random(101)
        words = ["bind", "put", "take", "home", "ask", "reads", "parts", "stale", "edition", "undo", "redo", "split",
                 "join", "move", "call", "off", "on", "all", "p", "q", "a", "b", "at", "as", "to", "from", "in", "hut",
                 "5", "-3", "12", "+", "-", "lo(p)", "least(a, b)"]
        desk = Desk(FREE)
        for _ in range(3000):
            line = " ".join(chance.choice(words) for _ in range(chance.randint(1, 6)))
            before = state_of(desk.store)
            answer = desk.say(line)
            self.assertIsInstance(answer, str)
            if answer == "no":
                self.assertEqual(state_of(desk.store), before)

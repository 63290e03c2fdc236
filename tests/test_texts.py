from random import Random

from namedcuts.errors import BadFrame, BadLayout, BadRolling, BadScript, BadTerm, BadText, CutError
from namedcuts.frames import need_frame
from namedcuts.texts import (frame_text, layout_text, read_frame, read_layout, read_rolling, read_script, read_term,
                             rolling_text, script_text, term_text)
from plain import any_layouts, mixed_scripts
from plain_rolling import rollings_to_try
from plain_texts import frame_break, layout_break, rolling_break, script_break, term_break
from refusals import Refusals
from trials import WRONG, frames_to_try, terms_to_try

AB = (("a", "b"), ())
ABC = (("a", "b", "c"), (("a", "upto", "b"), ("b", "ahead", "c")))
FORMED = "name a\nname b\nfact a upto b\nfact a ahead b"
SIGNS = "abglot-+(), 0192\nA"
NO_STRINGS = [thing for thing in WRONG if not isinstance(thing, str)]


def nested_term(deep, inner="a"):
    for _ in range(deep - 1):
        inner = f"least({inner})"
    return inner


def nested_script(deep, inner="off p"):
    return "\n".join(["if a upto b"] * deep + [inner] + ["else", "end"] * deep)


class There(Refusals):
    """There and back."""

    def test_frames(self):
        for frame in frames_to_try()[:150]:
            text = frame_text(frame)
            self.assertEqual(read_frame(text), frame)
            self.assertEqual(len(text.split("\n")), len(frame[0]) + len(frame[1]))
        self.assertEqual(frame_text(ABC), "name a\nname b\nname c\nfact a upto b\nfact b ahead c")

    def test_terms(self):
        for term in terms_to_try("abc", 200, 51):
            self.assertEqual(read_term(ABC, term_text(ABC, term)), term)
        for term, text in (("a", "a"), ("-", "-"), ("+", "+"), (("least", "a"), "least(a)"),
                           (("greatest", "-", ("least", "b", "c"), "+"), "greatest(-, least(b, c), +)")):
            self.assertEqual((term_text(ABC, term), read_term(ABC, text)), (text, term))

    def test_words_that_are_names(self):
        names = ("as", "at", "great", "hi", "least", "lo", "to")
        frame = (names, ())
        for name in names:
            self.assertEqual(read_term(frame, term_text(frame, name)), name)
            script = (("split", name, ("least", name, ("lo", name)), name, name), ("need", name, ("hi", "hi")))
            self.assertEqual(read_script(frame, script_text(frame, script)), script)

    def test_layouts(self):
        for layout in any_layouts(ABC, 60, 52):
            self.assertEqual(read_layout(ABC, layout_text(ABC, layout)), layout)
        self.assertEqual((layout_text(AB, ()), read_layout(AB, "")), ("", ()))
        layout = (("p", "-", "a", "hut"), ("q", ("least", "a", "b"), "+", "home"))
        text = "part p from - to a in hut\npart q from least(a, b) to + in home"
        self.assertEqual((layout_text(AB, layout), read_layout(AB, text)), (text, layout))

    def test_scripts(self):
        for script in mixed_scripts(ABC, 150, 53, book=()):
            self.assertEqual(read_script(ABC, script_text(ABC, script)), script)
        self.assertEqual((script_text(AB, ()), read_script(AB, "")), ("", ()))
        script = (("split", "p", "a", "p", "q"), ("join", "p", "q", "r"), ("shift", "p", "q", ("lo", "r")),
                  ("move", "p", "hut"), ("call", "p", "q"), ("off", "p"), ("on", "p", "-", ("hi", "q"), "hut"),
                  ("need", "a", "b"), ("if", "a", "b", (("off", "p"), ("if", "b", "a", (), ())), (("off", "q"),)))
        text = ("split p at a as p q\njoin p q as r\nshift p q to lo(r)\nmove p to hut\ncall p q\noff p\n"
                "on p from - to hi(q) in hut\nneed a upto b\nif a upto b\noff p\nif b upto a\nelse\nend\nelse\noff q\nend")
        self.assertEqual((script_text(AB, script), read_script(AB, text)), (text, script))

    def test_rollings(self):
        for rolling in rollings_to_try(80, 54):
            self.assertEqual(read_rolling(rolling_text(rolling)), rolling)
        rolling = ((12, 11, ("cut",)), (1, 0, ("join", 1, 9)), (2, 1, ("keep", 0)), (3, 0, ("move", 4, "hut")))
        text = "every 12 from 11 cut\nevery 1 from 0 join 1 9\nevery 2 from 1 keep 0\nevery 3 from 0 move 4 to hut"
        self.assertEqual((rolling_text(rolling), read_rolling(text)), (text, rolling))

    def test_what_is_none_has_no_text(self):
        self.refused(BadFrame, {"part": "names", "number": None}, frame_text, ((), ()))
        self.refused(BadLayout, {"part": "lo", "number": 0}, layout_text, AB, (("p", "c", "+", "home"),))
        self.refused(BadScript, {"place": (1,)}, script_text, AB, (("off", "p"), ("do", "p", ())))
        self.refused(BadRolling, {"number": None}, rolling_text, ())
        self.refused(BadTerm, {"given": "c"}, term_text, AB, "c")
        self.refused(BadTerm, {"given": ("lo", "p")}, term_text, AB, ("lo", "p"))
        for thing in WRONG:
            self.assertRaises(BadFrame, frame_text, thing)
            self.assertRaises(BadFrame, layout_text, thing, None)
            self.assertRaises(BadFrame, script_text, thing, None)
            self.assertRaises(BadFrame, term_text, thing, None)
            self.assertRaises(BadRolling, rolling_text, thing)
            if thing != ():
                self.assertRaises(BadLayout, layout_text, AB, thing)
                self.assertRaises(BadScript, script_text, AB, thing)
            self.assertRaises(BadTerm, term_text, AB, thing) if thing != "a" else None


class Broken(Refusals):
    def breaks(self, call, given, text, found):
        self.refused(BadText, dict(zip(("line", "place"), found)), call, *given, text)

    def held_against(self, call, given, text, found):
        """That a text breaks where it should, or is read or refused by what it tells."""
        if found is not None:
            self.breaks(call, given, text, found)
            return 1
        try:
            call(*given, text)
        except CutError as error:
            self.assertNotIsInstance(error, BadText, text)
        return 0

    def spoilt(self, texts, seed, many):
        """Texts with a sign or some too many, too few, or otherwise, or cut off."""
        chance = Random(seed)
        for _ in range(many):
            text = chance.choice(texts)
            for _ in range(chance.randint(1, 2)):
                at = chance.randint(0, len(text))
                end = min(len(text), at + chance.choice((0, 0, 1, 1, 2, 9)))
                text = text[:at] + "".join(chance.choice(SIGNS) for _ in range(chance.randint(0, 2))) + text[end:]
            yield text[:chance.randint(0, len(text))] if chance.random() < 0.2 else text

    def test_spoilt_texts(self):
        scripts = [script_text(ABC, script) for script in mixed_scripts(ABC, 30, 55, book=())]
        kinds = [
            (read_frame, (), frame_break, [frame_text(frame) for frame in frames_to_try()[::20]]),
            (read_layout, (ABC,), layout_break, [layout_text(ABC, layout) for layout in any_layouts(ABC, 20, 56)]),
            (read_script, (ABC,), script_break, scripts),
            (read_rolling, (), rolling_break, [rolling_text(rolling) for rolling in rollings_to_try(20, 57)]),
            (read_term, (ABC,), term_break, [term_text(ABC, term) for term in terms_to_try("abc", 30, 58)]),
        ]
        for call, given, break_of, texts in kinds:
            broken = 0
            for text in self.spoilt(texts, 59, 500):
                broken += self.held_against(call, given, text, break_of(text))
            self.assertGreater(broken, 200, call)

    def test_each_form_broken_at_each_character(self):
        texts = [
            (read_frame, (), frame_break, FORMED),
            (read_layout, (AB,), layout_break, "part p from least(a, b) to + in home\npart qqqqqq from - to a in h"),
            (read_script, (AB,), script_break, "split p at a as q r\njoin p q as r\nshift p q to lo(p)\nmove p to hut\n"
             "call p q\noff p\non p from - to + in home\nneed a upto b\nif a upto hi(q)\nelse\nend"),
            (read_rolling, (), rolling_break, "every 12 from 0 cut\nevery 1 from 0 join 1 10\nevery 3 from 2 keep 9\n"
             "every 1 from 0 move 1 to hut"),
            (read_term, (AB,), term_break, "greatest(least(a, b), -, +)"),
        ]
        for call, given, break_of, text in texts:
            for at in range(len(text) + 1):
                for sign in ("A", " ", "(", "e", "7", "0", "\n", ",", ")"):
                    for spoilt in (text[:at] + sign + text[at:], text[:at] + sign + text[at + 1:], text[:at] + sign):
                        self.held_against(call, given, spoilt, break_of(spoilt))
                self.held_against(call, given, text[:at], break_of(text[:at]))
                self.held_against(call, given, text[:at] + text[at + 1:], break_of(text[:at] + text[at + 1:]))

    def test_no_strings(self):
        for thing in NO_STRINGS:
            for call, given in ((read_frame, ()), (read_layout, (AB,)), (read_script, (AB,)), (read_rolling, ()),
                                (read_term, (AB,))):
                self.breaks(call, given, thing, (-1, -1))
        for call in (read_layout, read_script, read_term):
            for thing in WRONG:
                self.assertRaises(BadFrame, call, thing, None)

    def test_frames_by_hand(self):
        for text, found in (
                ("", (0, 0)), ("\n", (0, 0)), ("fact a upto b", (0, 0)), ("name", (0, 4)), ("name ", (0, 5)),
                ("nam a", (0, 3)), ("name  a", (0, 5)), ("name a ", (0, 6)), ("name abcdefg", (0, 11)), ("name A", (0, 5)),
                ("name a\n", (1, 0)), ("name a\nfact a uptob", (1, 11)), ("name a\nfact a ahea", (1, 11)),
                ("name a\nfact a a b", (1, 8)), ("name a\nfact a upto b\nname c", (2, 0)),
                ("name a\nfact a upto b\n", (2, 0)), ("name a\nfakt", (1, 2)), ("name a\nfact a upto", (1, 11)),
                (" name a", (0, 0)), ("name a\n\nname b", (1, 0)), ("name a.", (0, 6))):
            self.breaks(read_frame, (), text, found)

    def test_rollings_by_hand(self):
        for text, found in (
                ("", (0, 0)), ("every 01 from 0 cut", (0, 7)), ("every 100 from 0 cut", (0, 8)),
                ("every 1 from 00 cut", (0, 14)), ("every 1 from 0 cuts", (0, 18)), ("every 1 from 0 cu", (0, 17)),
                ("every 1 from 0 keep", (0, 19)), ("every 1 from 0 keep ", (0, 20)), ("every -1 from 0 cut", (0, 6)),
                ("every 1 from 0 join 1", (0, 21)), ("every 1 from 0 join 1  2", (0, 22)),
                ("every 1 from 0 move 1 hut", (0, 22)), ("every 1 from 0 move 1 to Hut", (0, 25)),
                ("every 1 from 0 cut\n", (1, 0)), ("every 1 from 0 move 1 to abcdefg", (0, 31))):
            self.breaks(read_rolling, (), text, found)

    def test_scripts_by_hand(self):
        two = "if a upto b\nelse"
        for text, found in (
                ("else", (0, 0)), ("end", (0, 0)), ("e", (0, 0)), ("if a upto b", (1, 0)), ("if a upto b\n", (1, 0)),
                ("if a upto b\nend", (1, 1)), (two, (2, 0)), (two + "\nelse", (2, 1)), (two + "\nen", (2, 2)),
                (two + "\nend\nelse", (3, 0)), (two + "\nend\n", (3, 0)), ("\noff p", (0, 0)), ("of p", (0, 2)),
                ("off p\n\noff q", (1, 0)), ("do p", (0, 0)), ("split p at a as l", (0, 17)), ("on p from - to", (0, 14)),
                ("if a upto b\nif a upto b\nelse\nend\nend", (4, 1)), ("off lo(p)", (0, 6)), ("need a upto lo(A)", (0, 15)),
                ("need lo(p, q) upto a", (0, 9)), ("need lo() upto a", (0, 8)), ("elsewhere", (0, 0))):
            self.breaks(read_script, (AB,), text, found)

    def test_terms_by_hand(self):
        for text, found in (
                ("", (0, 0)), ("lo(p)", (0, 2)), ("hi(p)", (0, 2)), ("a(b)", (0, 1)), ("least()", (0, 6)),
                ("least(a,b)", (0, 8)), ("least(a,  b)", (0, 9)), ("least(a, b", (0, 10)), ("least(a))", (0, 8)),
                ("greatest", (0, 8)), ("greates", (0, 7)), ("greatesa", (0, 7)), ("greatests", (0, 8)),
                ("greates(a)", (0, 7)), ("greatee", (0, 6)), ("leasta(a)", (0, 6)), ("abcdefg", (0, 6)), ("--", (0, 1)),
                ("-a", (0, 1)), ("a\n", (1, 0)), ("a\nb", (1, 0)), ("\na", (0, 0)), (" a", (0, 0)), ("a ", (0, 1)),
                ("least (a)", (0, 5)), ("7", (0, 0)), ("least(a\n)", (0, 7))):
            self.breaks(read_term, (AB,), text, found)

    def test_terms_that_are_deep(self):
        self.assertEqual(term_text(AB, read_term(AB, nested_term(20))), nested_term(20))
        for inner in ("-", "greate", "least", "lo"):
            frame = (tuple(sorted(["a", inner])) if inner != "-" else ("a",), ())
            self.assertEqual(term_text(frame, read_term(frame, nested_term(20, inner))), nested_term(20, inner))
        # At the 20th depth ( cannot stand, nor the seventh letter of greatest.
        begin = 19 * len("least(")
        self.breaks(read_term, (AB,), nested_term(21), (0, begin + 5))
        self.breaks(read_term, (AB,), nested_term(20, "greatest(a)"), (0, begin + 6))
        self.breaks(read_term, (AB,), nested_term(20, "least(a)"), (0, begin + 5))
        self.breaks(read_term, (AB,), "least(" * 21, (0, begin + 5))
        # The bound of a PART is 1 deep.
        text = f"need {nested_term(20, 'lo(p)')} upto {nested_term(20, 'hi(q)')}"
        self.assertEqual(script_text(AB, read_script(AB, text)), text)
        self.breaks(read_script, (AB,), f"need {nested_term(20, 'least(a)')} upto a", (0, 5 + begin + 5))
        self.breaks(read_layout, (AB,), f"part p from a to {nested_term(21)} in h", (0, 17 + begin + 5))

    def test_ifs_that_are_deep(self):
        six = read_script(AB, nested_script(6))
        self.assertEqual(script_text(AB, six), nested_script(6))
        for deep in (7, 39, 40):
            self.refused(BadScript, {"place": ()}, read_script, AB, nested_script(deep))
        for deep in (41, 42, 60):
            self.breaks(read_script, (AB,), nested_script(deep), (40, 0))
        self.breaks(read_script, (AB,), "\n".join(["if a upto b"] * 40), (40, 0))
        self.breaks(read_script, (AB,), "\n".join(["if a upto b"] * 40 + ["i"]), (40, 0))


class Told(Refusals):
    """What the lines tell together."""

    def test_frames(self):
        for text, part, number in (
                ("name b\nname a", "names", 1), ("name a\nname a", "names", 1), ("name a\nfact a upto b", "facts", 0),
                ("name a\nname b\nfact a upto b\nfact a upto a", "facts", 1), ("\n".join(["name a"] * 8), "names", None),
                ("name a\nname b" + "\nfact a upto b" * 61, "facts", None),
                ("name a\nname b\nfact a ahead b\nfact b upto a", "ring", None)):
            self.refused(BadFrame, {"part": part, "number": number}, read_frame, text)
        need_frame(read_frame("name a\nname b" + "\nfact a upto b" * 60))

    def test_layouts(self):
        line = "part {} from {} to {} in home"
        for lines, part, number in (
                ([line.format("p", "a", "c")], "hi", 0), ([line.format("p", "c", "d")], "lo", 0),
                ([line.format("q", "a", "b"), line.format("p", "a", "b")], "order", 1),
                ([line.format("p", "a", "b")] * 17, "form", None)):
            self.refused(BadLayout, {"part": part, "number": number}, read_layout, AB, "\n".join(lines))

    def test_scripts(self):
        self.refused(BadScript, {"place": (1,)}, read_script, AB, "off p\nneed c upto a")
        self.refused(BadScript, {"place": (0, 1, 1)}, read_script, AB, "if a upto b\nelse\noff p\nneed a upto c\nend")
        self.refused(BadScript, {"place": ()}, read_script, AB, "\n".join(["off p"] * 31))
        self.refused(BadScript, {"place": (0, 0)}, read_script, AB, nested_script(1, "\n".join(["off p"] * 31)))
        self.assertEqual(read_script(AB, "\n".join(["off p"] * 30)), (("off", "p"),) * 30)

    def test_rollings(self):
        good = "every 1 from 0 cut"
        for wrong in ("every 5 from 0 cut", "every 2 from 2 cut", "every 1 from 0 join 2 2", "every 1 from 0 join 0 2",
                      "every 1 from 0 join 1 10", "every 1 from 0 keep 10", "every 1 from 0 move 0 to hut"):
            self.refused(BadRolling, {"number": 1}, read_rolling, "\n".join((good, wrong, good)))
        self.refused(BadRolling, {"number": None}, read_rolling, "\n".join([good] * 9))
        self.assertEqual(read_rolling("\n".join([good] * 8)), ((1, 0, ("cut",)),) * 8)

    def test_terms(self):
        self.refused(BadTerm, {"given": "c"}, read_term, AB, "c")
        self.refused(BadTerm, {"given": ("least", "a", "lo")}, read_term, AB, "least(a, lo)")
        many = "least(" + ", ".join(["a"] * 41) + ")"
        self.refused(BadTerm, {"given": ("least",) + ("a",) * 41}, read_term, AB, many)
        wide = ", ".join(["least(" + ", ".join(["a"] * 40) + ")"] * 8)
        self.assertRaises(BadTerm, read_term, AB, f"least({wide})")

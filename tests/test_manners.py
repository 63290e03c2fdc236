from itertools import product

from namedcuts.errors import BadManner
from namedcuts.manners import AGAINS, DOORS, HOWS, LEADS, WORDS, need_manner
from refusals import Refusals
from trials import ODD, WRONG

RIGHT = ("any", "on", "list", "never", ("point",))


def with_acts(*acts):
    return (*RIGHT[:4], acts)


class Manners(Refusals):
    def no(self, place, thing):
        self.refused(BadManner, {"place": place}, need_manner, thing)

    def test_the_words(self):
        self.assertEqual(DOORS, ("any", "own", "now"))
        self.assertEqual(LEADS, ("on", "off"))
        self.assertEqual(HOWS, ("list", "whole", "next"))
        self.assertEqual(AGAINS, ("never", "own", "edition"))
        self.assertEqual(WORDS, ("seal", "hold", "free", "copy", "catch", "both", "tell", "point", "drain", "drop"))

    def test_each_word_in_each_place(self):
        every = sorted({*DOORS, *LEADS, *HOWS, *AGAINS, *WORDS, "", "Any", "points"})
        for place, words in enumerate((DOORS, LEADS, HOWS, AGAINS)):
            for word in every:
                manner = (*RIGHT[:place], word, *RIGHT[place + 1:])
                if word in words:
                    self.assertIs(need_manner(manner), manner)
                else:
                    self.no((place,), manner)
        for word in every:
            if word in WORDS and word != "point":
                self.assertIs(need_manner(manner := with_acts(word, "point", word)), manner)
                self.no((4, 3), with_acts(word, "point", word, word))
                self.no((4, 0), with_acts(word + "s", "point"))
            elif word != "point":
                self.no((4, 1), with_acts("point", word))
        for four in product(DOORS, LEADS, HOWS, AGAINS):
            self.assertIs(need_manner(manner := (*four, ("point",))), manner)

    def test_no_tuple_of_five(self):
        for thing in WRONG + (list(RIGHT), RIGHT[:4], RIGHT + ("on",), ("point",), "point", (RIGHT,), dict.fromkeys(RIGHT)):
            self.no((), thing)

    def test_acts(self):
        eight = ("seal", "hold", "copy", "catch", "both", "tell", "point", "drop")
        self.assertIs(need_manner(manner := with_acts(*eight)), manner)
        self.no((4,), with_acts(*eight, "drain"))
        self.no((4,), with_acts(*eight, "odd", "odd"))
        for acts in WRONG + (["point"], "point", {"point": 1}):
            if not (isinstance(acts, tuple) and len(acts) > 0):
                self.no((4,), (*RIGHT[:4], acts))
        for wrong in WRONG + ("points", ("point",), "any"):
            self.no((4, 0), with_acts(wrong))
            self.no((4, 1), with_acts("point", wrong, "odd"))
            self.no((4, 2), with_acts("drop", "drop", wrong, "point"))
        self.no((4,), with_acts())
        self.no((4,), with_acts("seal"))
        self.no((4,), with_acts("seal", "drop", "seal", "drop"))
        self.no((4, 1), with_acts("point", "point"))
        self.no((4, 3), with_acts("seal", "point", "drop", "point"))
        self.no((4, 2), with_acts("seal", "seal", "seal"))
        self.no((4, 4), with_acts("copy", "catch", "copy", "catch", "copy", "point"))
        self.no((4, 3), with_acts("copy", "catch", "copy", "odd", "copy"))

    def test_the_first_one_counts(self):
        wrong = ["odd", None, 3, ODD, ("points",)]
        for place in range(4):
            manner = (*RIGHT[:place], *wrong[place:])
            self.no((place,), manner)
            self.no((place,), (*RIGHT[:place], wrong[place], *RIGHT[place + 1:]))
        self.no((4, 0), (*RIGHT[:4], wrong[4]))
        for thing in WRONG:
            for place in range(4):
                self.no((place,), (*RIGHT[:place], thing, *RIGHT[place + 1:]))

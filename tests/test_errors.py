import unittest

from namedcuts import errors

STRAIGHT = {
    ("part", "number"): ("BadFrame", "BadLayout"),
    ("one", "other"): ("BadOrder",),
    ("line", "place"): ("BadText",),
    ("place",): ("BadBook", "BadScript", "BadManner", "BadPath"),
    ("number",): ("BadWeaving", "BadRolling", "BadJournal"),
    ("part",): ("BadPaper",),
    ("word",): ("Stopped",),
    ("given",): (
        "BadName", "BadNames", "BadWorld", "BadCut", "BadCuts", "BadTerm", "BadNumber", "BadPart", "BadTree",
        "BadAsk", "BadRule", "BadCondition", "BadDeed", "BadStanding", "BadEvent", "BadThing", "BadSort", "BadClaim",
        "Unbound", "Bound", "Overlaps", "Outside", "NoPart", "Late", "Parts", "Leans"),
}
THINGS = (None, True, 5, "text", "", b"x", [1], {"a": []}, set(), (1, (2,)), object(), len, 10 ** 5000)


class Errors(unittest.TestCase):
    def told(self):
        for words, names in STRAIGHT.items():
            for name in names:
                yield getattr(errors, name), words

    def test_all_are_told_and_no_more(self):
        names = {name for name, thing in vars(errors).items() if isinstance(thing, type)}
        wanted = {name for names in STRAIGHT.values() for name in names}
        self.assertEqual(names, wanted | {"CutError", "BadQuestion", "TooMany", "Missing"})

    def test_each_is_straight_under_its_one(self):
        for error, _ in self.told():
            self.assertEqual(error.__bases__, (errors.CutError,), error)
        self.assertEqual(errors.CutError.__bases__, (ValueError,))
        self.assertEqual(errors.BadQuestion.__bases__, (errors.CutError,))
        self.assertEqual(errors.TooMany.__bases__, (OverflowError,))
        self.assertEqual(errors.Missing.__bases__, (KeyError,))

    def test_what_they_are_made_with_is_kept_under_its_names(self):
        others = [(errors.TooMany, ("most",)), (errors.Missing, ("given",))]
        for error, words in list(self.told()) + others:
            for thing in THINGS:
                things = [thing, "second"][:len(words)]
                made = error(*things)
                for word, given in zip(words, things):
                    self.assertIs(getattr(made, word), given)
                self.assertEqual(set(vars(made)), set(words))

    def test_of_two_things_each_has_its_name(self):
        for error, words in self.told():
            if len(words) == 2:
                made = error([1], {2: 3})
                self.assertEqual([getattr(made, word) for word in words], [[1], {2: 3}])

    def test_they_are_raised_and_caught(self):
        for error, words in self.told():
            with self.assertRaises(errors.CutError) as caught:
                raise error(*words)
            self.assertEqual([getattr(caught.exception, word) for word in words], list(words))
        with self.assertRaises(OverflowError):
            raise errors.TooMany(200)
        with self.assertRaises(KeyError):
            raise errors.Missing("a")

    def test_a_text_is_the_text(self):
        self.assertEqual(str(errors.CutError("what")), "what")
        self.assertEqual(str(errors.BadQuestion("why")), "why")
        self.assertEqual(vars(errors.BadQuestion("why")), {})
        for thing in THINGS:
            self.assertIsInstance(errors.CutError(thing), ValueError)
            self.assertIsInstance(errors.BadQuestion(thing), errors.CutError)

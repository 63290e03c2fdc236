"""Frames, worlds, terms and wrong things to try the program with, made without the program."""

from itertools import combinations, product
from random import Random

LETTERS = "abcdefg"


class Odd:
    """A thing of no kind that is wanted, that says that it equals everything."""

    def __eq__(self, other):
        return True

    def __hash__(self):
        return 1


ODD = Odd()

WRONG = (
    None, True, False, 0, 1, -3, 10 ** 39, "", "A", "abcdefg", "a b", "a\n", b"a", b"", [], ["a"], {}, {"a": 1},
    set(), {"a"}, frozenset(), (), (None,), ((),), ((), ()), ((), (), ()), (("a",),), ("a", 1), ("a", ["b"]),
    [("a",), ()], object(), ODD, len, int, range(3), (ODD,), (ODD, ODD), (ODD, ODD, ODD), ("z" * 6,),
    ({"a": ["b"]}, {1}), (True, False), ("least", []), iter(()),
)


def nested(deep, inner=()):
    """A thing inside so many tuples."""
    for _ in range(deep):
        inner = (inner,)
    return inner


def every_fact(names):
    return [(one, word, other) for one in names for other in names if one != other for word in ("upto", "ahead")]


def orders(many):
    """A tuple of ranks for each order of so many names, with equal ones."""
    return [ranks for ranks in product(range(many), repeat=many) if set(ranks) == set(range(len(set(ranks))))]


def keeps(names, facts, values):
    at = dict(zip(names, values))
    return all(at[one] < at[other] if word == "ahead" else at[one] <= at[other] for one, word, other in facts)


def worlds_of(frame):
    """A world for each order of the names that keeps the facts, with room for keys between the values."""
    names, facts = frame
    return [tuple(3 * rank - 2 for rank in ranks) for ranks in orders(len(names)) if keeps(names, facts, ranks)]


def keys_of(world):
    return range(min(world) - 1, max(world) + 2)


def all_small_forms():
    """All pairs of names and facts of up to three names, with up to two facts, and with three of two names."""
    for many in (1, 2, 3):
        names = tuple(LETTERS[:many])
        for count in range(5 - many if many > 1 else 1):
            for facts in combinations(every_fact(names), count):
                yield (names, facts)


def mixed_forms(seed, many, names_to, facts_to):
    """So many pairs of names and facts, with facts twice and rings among them, always the same ones of a seed."""
    chance = Random(seed)
    for _ in range(many):
        names = tuple(sorted(chance.sample(("a", "b", "bb", "c", "d", "zz", "zzzzzz"), chance.randint(1, names_to))))
        facts = every_fact(names)
        count = chance.randint(0, facts_to) if facts else 0
        yield (names, tuple(chance.choice(facts) for _ in range(count)))


def frames_to_try():
    """Frames of up to four names that have worlds."""
    forms = list(all_small_forms()) + list(mixed_forms(7, 150, 4, 7))
    return [form for form in forms if worlds_of(form)]


def few_frames():
    """Some of them, of every kind: free, with equal names, with a line of names."""
    return [
        (("a",), ()),
        (("a", "b"), ()),
        (("a", "b"), (("b", "upto", "a"),)),
        (("a", "b"), (("b", "ahead", "a"),)),
        (("a", "b", "c"), ()),
        (("a", "b", "c"), (("a", "upto", "c"), ("c", "upto", "a"))),
        (("a", "b", "c"), (("a", "upto", "b"), ("b", "upto", "c"), ("c", "upto", "a"))),
        (("a", "b", "c"), (("c", "ahead", "b"), ("b", "upto", "a"))),
        (("a", "b", "c", "d"), (("a", "ahead", "c"), ("b", "upto", "c"), ("d", "upto", "b"), ("b", "upto", "d"))),
        (("a", "b", "c", "d"), (("d", "upto", "a"), ("d", "ahead", "b"))),
        (("a", "b", "c", "d"), (("a", "upto", "b"), ("b", "upto", "a"), ("c", "upto", "d"), ("d", "upto", "c"))),
    ]


def terms_to_try(names, many, seed):
    """Bounds alone, choices of one and of two, and so many mixed terms."""
    bounds = list(names) + ["-", "+"]
    terms = bounds + [(word, one) for word in ("least", "greatest") for one in bounds]
    terms += [(word, one, other) for word in ("least", "greatest") for one in bounds for other in bounds]
    chance = Random(seed)
    return terms + [mixed_term(bounds, chance, 3) for _ in range(many)]


def mixed_term(bounds, chance, deep):
    if deep == 0 or chance.random() < 0.2:
        return chance.choice(bounds)
    parts = [mixed_term(bounds, chance, deep - 1) for _ in range(chance.randint(1, 3))]
    return (chance.choice(("least", "greatest")), *parts)


def number_of(term, values):
    """The value of a term as a number: far below or above all keys for the ends."""
    if isinstance(term, str):
        return {"-": -10 ** 9, "+": 10 ** 9}.get(term) or values[term]
    many = [number_of(part, values) for part in term[1:]]
    return min(many) if term[0] == "least" else max(many)

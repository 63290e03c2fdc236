"""What asks and conditions tell of keys in worlds, done plainly, and asks and conditions to try; made without the
program."""

from random import Random

from plain import lies_in
from trials import mixed_term, number_of


def asks_for(ask, values, key):
    """Whether an ask asks for a key, by the values of the names."""
    word = ask[0]
    if word in ("all", "none"):
        return word == "all"
    if word == "from":
        return number_of(ask[1], values) <= key
    if word == "ahead":
        return key < number_of(ask[1], values)
    if word == "not":
        return not asks_for(ask[1], values, key)
    return {"and": all, "or": any}[word](asks_for(one, values, key) for one in ask[1])


def holds_for(condition, values):
    word = condition[0]
    if word in ("yes", "no"):
        return word == "yes"
    if word in ("and", "or"):
        return {"and": all, "or": any}[word](holds_for(one, values) for one in condition[1])
    one, other = number_of(condition[1], values), number_of(condition[2], values)
    return one < other if word == "ahead" else one <= other


def keys_for(world):
    return range(min(world) - 1, max(world) + 2)


def read_plainly(frame, layout, ask, world):
    """The parts that are read in a world, in the order of their first keys that are asked."""
    values = dict(zip(frame[0], world))
    found = []
    for key in keys_for(world):
        for part in layout:
            if part[0] not in found and lies_in(part, values, key) and asks_for(ask, values, key):
                found.append(part[0])
    return tuple(found)


def mixed_ask(bounds, chance, deep):
    word = chance.choice(("from", "ahead", "from", "ahead", "all", "none", "not", "and", "or", "and", "or"))
    if word in ("all", "none"):
        return (word,)
    if deep == 1 or word in ("from", "ahead"):
        return (chance.choice(("from", "ahead")), mixed_term(bounds, chance, 2))
    if word == "not":
        return ("not", mixed_ask(bounds, chance, deep - 1))
    return (word, tuple(mixed_ask(bounds, chance, deep - 1) for _ in range(chance.randint(0, 3))))


def asks_to_try(frame, many, seed):
    chance = Random(seed)
    return [mixed_ask(list(frame[0]) * 2 + ["-", "+"], chance, chance.randint(1, 3)) for _ in range(many)]


def mixed_condition(bounds, chance, deep):
    word = chance.choice(("ahead", "upto", "ahead", "upto", "yes", "no", "and", "or"))
    if word in ("yes", "no"):
        return (word,)
    if deep == 1 or word in ("ahead", "upto"):
        return (chance.choice(("ahead", "upto")), mixed_term(bounds, chance, 1), mixed_term(bounds, chance, 1))
    return (word, tuple(mixed_condition(bounds, chance, deep - 1) for _ in range(chance.randint(0, 3))))


def rules_to_try(frame, layout, many, seed):
    """Rules with conditions for some of the parts, and for some that are none."""
    chance = Random(seed)
    bounds = list(frame[0]) + ["-", "+"]
    names = sorted({part[0] for part in layout} | {"nopart"})
    return [tuple((name, mixed_condition(bounds, chance, 3)) for name in names if chance.random() < 0.7)
            for _ in range(many)]

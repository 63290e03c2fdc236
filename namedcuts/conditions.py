"""CONDITIONs and RULEs by their form, and the ROWs in whose WORLDs a CONDITION holds."""

from namedcuts.errors import BadCondition, BadRule
from namedcuts.kinds import is_made_of, is_name, is_tuple_of, is_word
from namedcuts.terms import is_term, names_in

COMPARED = ("ahead", "upto")
PLAIN = ("yes", "no")
LINKS = ("and", "or")
MOST_LINKED = 40
MOST_DEEP = 4
MOST_CONDITIONS = 100
MOST_PAIRS = 16


def see_condition(order, thing):
    """BadCondition of what is no CONDITION of an Order."""
    if not is_condition(order.names, thing):
        raise BadCondition(thing)


def is_condition(names, thing):
    """Whether anything is a CONDITION of some NAMES."""
    return is_made_of(thing, lambda part: _inner(names, part), MOST_DEEP, MOST_CONDITIONS)


def _inner(names, thing):
    """The CONDITIONs that stand in what is a CONDITION but for these, or None of what is none."""
    if is_tuple_of(thing, 1, 1) and is_word(thing[0], PLAIN):
        return ()
    if is_tuple_of(thing, 2, 2) and is_word(thing[0], LINKS) and is_tuple_of(thing[1], 0, MOST_LINKED):
        return thing[1]
    if not is_tuple_of(thing, 3, 3) or not is_word(thing[0], COMPARED):
        return None
    return () if is_term(names, thing[1]) and is_term(names, thing[2]) else None


def see_rule(order, thing):
    """BadRule of what is no RULE of an Order."""
    if not _is_rule(order.names, thing):
        raise BadRule(thing)


def _is_rule(names, thing):
    if not is_tuple_of(thing, 0, MOST_PAIRS) or not all([_is_pair(names, pair) for pair in thing]):
        return False
    return all([one[0] < other[0] for one, other in zip(thing, thing[1:])])


def _is_pair(names, thing):
    return is_tuple_of(thing, 2, 2) and is_name(thing[0]) and is_condition(names, thing[1])


def holding(rows, condition):
    """Those of some Rows in whose WORLDs a CONDITION holds."""
    word = condition[0]
    if word in PLAIN:
        return rows.all_of_them if word == "yes" else 0
    if word == "ahead":
        return rows.ahead(condition[1], condition[2])
    if word == "upto":
        return rows.all_of_them & ~rows.ahead(condition[2], condition[1])
    found = rows.all_of_them if word == "and" else 0
    for inner in condition[1]:
        more = holding(rows, inner)
        found = found & more if word == "and" else found | more
    return found


def names_of_condition(condition):
    """The list of the NAMEs in a CONDITION, as often as they stand there."""
    word = condition[0]
    if word in PLAIN:
        return []
    if word in COMPARED:
        return [*names_in(condition[1]), *names_in(condition[2])]
    return [name for inner in condition[1] for name in names_of_condition(inner)]

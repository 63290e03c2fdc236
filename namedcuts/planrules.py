"""RULEs by which a plan takes PARTs or leaves them out: whether it misses one that is READ, or takes one in vain."""

from namedcuts.asks import asked_in, names_of_ask, stretches_in
from namedcuts.conditions import holding, names_of_condition, see_condition, see_rule
from namedcuts.cuts import need_world
from namedcuts.errors import BadPaper, TooMany
from namedcuts.frames import order_of
from namedcuts.kinds import is_tuple_of, is_word
from namedcuts.lattice import Lattice
from namedcuts.layouts import see_layout
from namedcuts.maps import lots_apart
from namedcuts.order import Order
from namedcuts.reads import is_part_of, order_for
from namedcuts.rows import Rows, all_rows, row_in
from namedcuts.terms import names_in, see_term

MOST_ORDERED = 5
FAULTS = ("missed", "idle")


def need_rule(frame, thing):
    """The thing itself; BadRule of what is no RULE of the FRAME."""
    see_rule(order_of(frame), thing)
    return thing


def holds(frame, condition, world):
    """Whether a CONDITION holds in a WORLD."""
    order = order_of(frame)
    see_condition(order, condition)
    need_world(order, world)
    return bool(holding(_only(Lattice(order), world), condition))


def _only(lattice, world):
    """The Rows of one WORLD alone."""
    return Rows(lattice, [row_in(lattice, world)])


def rule_fault(frame, layout, ask, rule, is_sharp):
    """A PAPER on a RULE that is not SAFE, or, if is_sharp is True, not SHARP, or None."""
    order = order_for(frame, layout, ask)
    see_rule(order, rule)
    lots_apart(Lattice(order), layout)
    conditions = dict(rule)
    asked = names_of_ask(ask)
    named = [(part, _names_for(part, asked, conditions)) for part in layout]
    if any([len(names) > MOST_ORDERED for _, names in named]):
        raise TooMany(MOST_ORDERED)
    known = {}
    idle = None
    for part, names in named:
        if names not in known:
            known[names] = _rows_for(order, names)
        read, taken = _read_and_taken(known[names], part, ask, conditions)
        if read & ~taken:
            return ("missed", part[0], _world_in(order, known[names], read & ~taken))
        if idle is None and taken & ~read:
            idle = ("idle", part[0], _world_in(order, known[names], taken & ~read))
    return idle if is_sharp else None


def _names_for(part, asked, conditions):
    """The NAMEs by whose order it is told whether a PART is READ, and whether it is taken."""
    name, low, high, _ = part
    more = names_of_condition(conditions[name]) if name in conditions else []
    return tuple(sorted(set([*names_in(low), *names_in(high), *asked, *more])))


def _rows_for(order, names):
    """All Rows of some NAMEs alone, with what is told of them."""
    facts = [(one, "ahead" if order.leads_past(one, other) else "upto", other)
             for one in names for other in names if one != other and order.leads(one, other)]
    lattice = Lattice(Order(names, tuple(facts)))
    return Rows(lattice, all_rows(lattice))


def _read_and_taken(rows, part, ask, conditions):
    """The ROWs in which a PART is READ, and those in which it is taken."""
    name, low, high, _ = part
    lattice = rows.lattice
    read = rows.meeting(lattice.of_term(low) & ~lattice.of_term(high) & asked_in(lattice, ask))
    return read, holding(rows, conditions[name]) if name in conditions else rows.all_of_them


def _world_in(order, rows, some):
    """A WORLD with the order of NAMEs that the first one of some ROWs has."""
    row = rows.rows[(some & -some).bit_length() - 1]
    cuts = [rows.lattice.named[number] for number in row]
    groups = [[name for name in behind if name not in cut] for cut, behind in zip(cuts, cuts[1:])]
    facts = [(group[0], "ahead", behind[0]) for group, behind in zip(groups, groups[1:])]
    facts += [(one, "upto", other) for group in groups for one in group for other in group if one != other]
    return tuple(Order(order.names, (*order.facts, *facts)).levels())


def check_rule(frame, layout, ask, rule, paper):
    """The first word of a PAPER on a RULE that holds; BadPaper of another one."""
    order = order_for(frame, layout, ask)
    see_rule(order, rule)
    if not _is_rule_paper(order, layout, paper):
        raise BadPaper("form")
    lattice = Lattice(order)
    lots_apart(lattice, layout)
    word, name, world = paper
    part = [one for one in layout if one[0] == name][0]
    read, taken = _read_and_taken(_only(lattice, world), part, ask, dict(rule))
    if word == "missed" and not read & ~taken:
        raise BadPaper("missed")
    if word == "idle" and not taken & ~read:
        raise BadPaper("idle")
    return word


def _is_rule_paper(order, layout, paper):
    if not is_tuple_of(paper, 3, 3) or not is_word(paper[0], FAULTS):
        return False
    return is_part_of(layout, paper[1]) and order.fits(paper[2])


def sharp_rule(frame, layout, ask):
    """The SHARP RULE of a LAYOUT and an ASK."""
    lattice = Lattice(order_for(frame, layout, ask))
    lots_apart(lattice, layout)
    found = stretches_in(lattice, ask)
    return tuple([(name, ("or", tuple([_overlap(lattice, low, high, begin, end) for begin, end in found])))
                  for name, low, high, _ in layout])


def _overlap(lattice, low, high, begin, end):
    """The CONDITION that there is a KEY between both pairs of bounds."""
    first = lattice.of_term(("greatest", low, begin))
    last = lattice.of_term(("least", high, end))
    return ("ahead", lattice.normal(first), lattice.normal(last))


def textbook(frame, layout, lo, hi):
    """The TEXTBOOK RULE of a LAYOUT and one STRETCH."""
    order = order_of(frame)
    see_layout(order, layout)
    see_term(order, lo)
    see_term(order, hi)
    lots_apart(Lattice(order), layout)
    return tuple([(name, ("and", (("ahead", low, hi), ("ahead", lo, high)))) for name, low, high, _ in layout])

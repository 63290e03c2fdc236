"""FRAMEs: NAMEs, the FACTS on them, and the WORLDs that keep these."""

from namedcuts.errors import BadFrame, BadName, BadPaper, BadQuestion
from namedcuts.kinds import are_whole, are_words, is_name, is_tuple_of, is_word
from namedcuts.order import Order

MOST_NAMES = 7
MOST_FACTS = 60
WORDS = ("upto", "ahead")


def need_frame(thing):
    """The thing itself; BadFrame of what is no FRAME."""
    order_of(thing)
    return thing


def order_of(thing):
    """The Order of a FRAME; BadFrame of what is none."""
    order = _formed(thing)
    if order.ringed():
        raise BadFrame("ring", None)
    return order


def _formed(thing):
    """The Order of what has the form of a FRAME, whether there is a WORLD or not; BadFrame of what has not."""
    if not is_tuple_of(thing, 2, 2):
        raise BadFrame("form", None)
    names, facts = thing
    _see_names(names)
    _see_facts(names, facts)
    return Order(names, facts)


def _see_names(names):
    if not is_tuple_of(names, 1, MOST_NAMES):
        raise BadFrame("names", None)
    for number, name in enumerate(names):
        if not is_name(name) or (number > 0 and name <= names[number - 1]):
            raise BadFrame("names", number)


def _see_facts(names, facts):
    if not is_tuple_of(facts, 0, MOST_FACTS):
        raise BadFrame("facts", None)
    for number, fact in enumerate(facts):
        if not _is_fact(names, fact):
            raise BadFrame("facts", number)


def _is_fact(names, thing):
    if not is_tuple_of(thing, 3, 3):
        return False
    one, word, other = thing
    return is_word(one, names) and is_word(word, WORDS) and is_word(other, names) and one != other


def need_named(order, thing):
    """BadName of what is no NAME of the FRAME."""
    if not is_word(thing, order.names):
        raise BadName(thing)


def is_world(frame, thing):
    """Whether anything is a WORLD of the FRAME."""
    return order_of(frame).fits(thing)


def a_world(frame):
    """A WORLD of the FRAME."""
    return tuple(order_of(frame).levels())


def told(frame, a, b):
    """What is TOLD of two NAMEs: "ahead", "upto" or None."""
    order = order_of(frame)
    need_named(order, a)
    need_named(order, b)
    if order.leads_past(a, b):
        return "ahead"
    return "upto" if order.leads(a, b) else None


def way(frame, a, b):
    """A WAY from a to b, a STRICT one if there is one, or None."""
    order = order_of(frame)
    need_named(order, a)
    need_named(order, b)
    return order.shortest(a, b, order.leads_past(a, b))


def with_facts(frame, facts):
    """The FRAME with more FACTS behind those that it has."""
    order = order_of(frame)
    if not isinstance(facts, tuple):
        raise BadFrame("facts", None)
    return need_frame((order.names, order.facts + facts))


def same_worlds(one, other):
    """Whether two FRAMEs with the same NAMES have the same WORLDs."""
    first = order_of(one)
    second = order_of(other)
    if first.names != second.names:
        raise BadQuestion("the two FRAMEs have unlike NAMES")
    return first.has_same_worlds(second)


def needless_facts(frame):
    """The ascending tuple of the indexes of the NEEDLESS FACTS."""
    order = order_of(frame)
    facts = order.facts
    lean = [Order(order.names, facts[:number] + facts[number + 1:]) for number in range(len(facts))]
    return tuple([number for number, less in enumerate(lean) if order.has_same_worlds(less)])


def facts_paper(thing):
    """A PAPER on NAMES and FACTS of a FRAME's form: ("world", WORLD) or ("ring", WAY)."""
    order = _formed(thing)
    ringed = order.ringed()
    if ringed:
        return ("ring", order.shortest(ringed[0], ringed[0], True))
    return ("world", tuple(order.levels()))


def check_facts(thing, paper):
    """The first word of a PAPER on NAMES and FACTS that holds; BadPaper of another one."""
    order = _formed(thing)
    if not _is_facts_paper(order, paper):
        raise BadPaper("form")
    word, shown = paper
    if word == "world" and not order.fits(shown):
        raise BadPaper("world")
    if word == "ring" and not order.is_ring(shown):
        raise BadPaper("ring")
    return word


def _is_facts_paper(order, paper):
    if not is_tuple_of(paper, 2, 2):
        return False
    word, shown = paper
    if is_word(word, ("world",)):
        return are_whole(shown)
    return is_word(word, ("ring",)) and are_words(shown, order.names)

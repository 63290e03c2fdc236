"""What each DEED but "if" and "do" wants of PARTs, and what it makes of them.

PARTs are a dict from their names to tuples of the worths of their bounds and a HOUSE, never changed."""

from namedcuts.layouts import MOST_PARTS


def is_able(parts, deed):
    """Whether there is all that a DEED wants, but for what has to be compared."""
    word = deed[0]
    if word == "split":
        _, part, _, left, right = deed
        if part not in parts or left == right or len(parts) == MOST_PARTS:
            return False
        return _is_free(parts, left, (part,)) and _is_free(parts, right, (part,))
    if word == "join":
        _, left, right, part = deed
        return _are_two(parts, left, right) and _is_free(parts, part, (left, right))
    if word == "shift":
        return _are_two(parts, deed[1], deed[2])
    if word == "call":
        return deed[1] in parts and deed[2] not in parts
    if word == "on":
        return deed[1] not in parts and len(parts) < MOST_PARTS
    return word in ("need", "if") or deed[1] in parts


def _is_free(parts, name, gone):
    """Whether a name can be given when some PARTs are gone."""
    return name not in parts or name in gone


def _are_two(parts, left, right):
    return left in parts and right in parts and left != right


def questions(parts, deed, worths):
    """The pairs of worths of which the first must not be greater, if the DEED is to be done, or its THEN."""
    if deed[0] in ("need", "if"):
        return [(worths[0], worths[1])]
    if deed[0] in ("join", "shift"):
        end = parts[deed[1]][1]
        begin = parts[deed[2]][0]
        return [(end, begin), (begin, end)]
    return []


def changed(scale, parts, deed, worths):
    """The PARTs behind a DEED that can be done."""
    word = deed[0]
    if word == "split":
        return _split(scale, parts, deed, worths[0])
    if word == "join":
        return _joined(scale, parts, deed)
    if word == "shift":
        return _shifted(scale, parts, deed, worths[0])
    if word == "move":
        low, high, _ = parts[deed[1]]
        return _exchanged(parts, (), {deed[1]: (low, high, deed[2])})
    if word == "call":
        return _exchanged(parts, (deed[1],), {deed[2]: parts[deed[1]]})
    if word == "off":
        return _exchanged(parts, (deed[1],), {})
    if word == "on":
        return _exchanged(parts, (), {deed[1]: (worths[0], worths[1], deed[4])})
    return parts


def _exchanged(parts, gone, new):
    """PARTs without some of them, and with new ones."""
    return {**{name: parts[name] for name in parts if name not in gone}, **new}


def _split(scale, parts, deed, worth):
    _, part, _, left, right = deed
    low, high, house = parts[part]
    middle = _between(scale, low, worth, high)
    return _exchanged(parts, (part,), {left: (low, middle, house), right: (middle, high, house)})


def _between(scale, low, worth, high):
    return scale.greatest([low, scale.least([worth, high])])


def _span(scale, parts, left, right):
    """The bounds of two PARTs that MEET as one: no KEY is lost if bounds stand the wrong way about."""
    low, middle, _ = parts[left]
    _, high, _ = parts[right]
    return scale.least([low, middle]), scale.greatest([middle, high])


def _joined(scale, parts, deed):
    _, left, right, part = deed
    low, high = _span(scale, parts, left, right)
    return _exchanged(parts, (left, right), {part: (low, high, parts[left][2])})


def _shifted(scale, parts, deed, worth):
    _, left, right, _ = deed
    low, high = _span(scale, parts, left, right)
    middle = _between(scale, low, worth, high)
    return _exchanged(parts, (), {left: (low, middle, parts[left][2]), right: (middle, high, parts[right][2])})

"""PARTs by values: dicts from names to tuples of two worths and a HOUSE, and where KEYs lie in them.

A worth is a pair that is ordered as the values are, as Values has it; that of a KEY is one, too."""

LOWEST = (-1, 0)
HIGHEST = (1, 0)


def worth_at(key):
    """The worth of a KEY."""
    return (0, key)


def home_in(parts, worth):
    """The name of the PART in which a worth lies, or None."""
    for name, (low, high, _) in parts.items():
        if low <= worth < high:
            return name
    return None


def rows_of(part, rows):
    """The rows, a dict from KEYs to TEXTs, that lie in one PART."""
    low, high, _ = part
    return {key: text for key, text in rows.items() if low <= worth_at(key) < high}


def parts_between(parts, begin, end):
    """The list of the names of the PARTs in which something lies from one worth on, and less than another one.

    They are told in the order of their KEYs."""
    found = [(max(low, begin), name) for name, (low, high, _) in parts.items() if max(low, begin) < min(high, end)]
    return [name for _, name in sorted(found)]


def spans_apart(parts, others):
    """The list of pairs of worths between which another PART, by its name, has the KEYs, as few as can be."""
    bounds = [bound for some in (parts, others) for low, high, _ in some.values() for bound in (low, high)]
    ends = sorted(set([LOWEST, HIGHEST, *bounds]))
    found = []
    for begin, end in zip(ends, ends[1:]):
        if home_in(parts, begin) == home_in(others, begin):
            continue
        if found and found[-1][1] == begin:
            found[-1] = (found[-1][0], end)
        else:
            found.append((begin, end))
    return found

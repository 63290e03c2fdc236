"""Numbers, KEYs and TEXTs of tables that go on: refused where they are none."""

from namedcuts.errors import BadNumber, BadText
from namedcuts.kinds import is_whole

FURTHEST = 10 ** 18
MOST_SIGNS = 100


def need_whole(thing, least, most):
    """BadNumber of what is no integer from the least to the most."""
    if not is_whole(thing) or not least <= thing <= most:
        raise BadNumber(thing)


def is_key(thing):
    """Whether anything is an integer that can be a KEY, a MOMENT or a value."""
    return is_whole(thing) and -FURTHEST <= thing <= FURTHEST


def need_key(thing):
    """BadNumber of what is no KEY, MOMENT or value."""
    need_whole(thing, -FURTHEST, FURTHEST)


def need_row_text(thing):
    """BadText of what is no TEXT of a row."""
    if not isinstance(thing, str) or len(thing) > MOST_SIGNS or "\n" in thing:
        raise BadText(-1, -1)


def rows_between(rows, low, high):
    """The ascending tuple of those rows, a dict from KEYs to TEXTs, whose KEYs are from low on and less than high."""
    return tuple(sorted([(key, text) for key, text in rows.items() if low <= key < high]))

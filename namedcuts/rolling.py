"""ROLLINGs: tables that roll on with time, and where each INTERVAL lies behind each tick."""

from namedcuts.errors import BadRolling
from namedcuts.kinds import is_name, is_tuple_of, is_whole, is_word
from namedcuts.live import need_whole
from namedcuts.rolls import rolled_to
from namedcuts.ticks import GONE, Wheel

MOST_LINES = 8
EVERIES = (1, 2, 3, 4, 6, 12)
MOST_NUMBER = 9
MOST_TICKS = 300
FURTHEST_TICK = 10 ** 30
MOST_WIDE = 50


def need_rolling(thing):
    """The thing itself; BadRolling of what is no ROLLING."""
    if not is_tuple_of(thing, 1, MOST_LINES):
        raise BadRolling(None)
    for number, line in enumerate(thing):
        if not _is_line(line):
            raise BadRolling(number)
    return thing


def _is_line(thing):
    if not is_tuple_of(thing, 3, 3):
        return False
    every, begin, roll = thing
    if not is_whole(every) or every not in EVERIES or not _is_from(begin, 0, every - 1):
        return False
    return _is_roll(roll)


def _is_from(thing, least, most):
    return is_whole(thing) and least <= thing <= most


def _is_roll(thing):
    if not is_tuple_of(thing, 1, 3):
        return False
    word, *told = thing
    if is_word(word, ("cut",)):
        return len(told) == 0
    if is_word(word, ("keep",)):
        return len(told) == 1 and _is_from(told[0], 0, MOST_NUMBER)
    if len(told) != 2 or not _is_from(told[0], 1, MOST_NUMBER):
        return False
    if is_word(word, ("join",)):
        return _is_from(told[1], told[0] + 1, MOST_NUMBER)
    return is_word(word, ("move",)) and is_name(told[1])


def wheel_of(thing):
    """The Wheel of a ROLLING; BadRolling of what is none."""
    return Wheel(need_rolling(thing))


def period_of(rolling):
    """The PERIOD of a ROLLING."""
    return wheel_of(rolling).period


def top_number(rolling):
    """The TOP of a ROLLING."""
    return wheel_of(rolling).top


def bounds_behind(rolling, tick):
    """The BOUNDS behind a tick."""
    wheel = wheel_of(rolling)
    need_whole(tick, 0, MOST_TICKS)
    return rolled_to(wheel, tick).bounds_now()


def houses_behind(rolling, tick):
    """The HOUSES behind a tick."""
    wheel = wheel_of(rolling)
    need_whole(tick, 0, MOST_TICKS)
    return rolled_to(wheel, tick).houses_now()


def place_of(rolling, interval, tick):
    """The PLACE of an INTERVAL behind a tick."""
    wheel = wheel_of(rolling)
    need_whole(tick, 0, FURTHEST_TICK)
    need_whole(interval, 0, tick)
    return place_at(wheel, interval, tick - interval)


def place_at(wheel, interval, age):
    """The PLACE of an INTERVAL so many ticks behind its own one."""
    many, _ = wheel.later(0, 0, GONE, interval)
    _, place = wheel.later(interval, many, 0, age)
    return place


def most_parts(rolling):
    """The MOST PARTS: None if there is no greatest number."""
    wheel = wheel_of(rolling)
    most = max([many for _, many in wheel.begins()])
    # What comes to TOP has no end, and nothing else has none.
    return None if most >= wheel.top else most


def most_read(rolling, width):
    """The MOST READ of a WIDTH."""
    wheel = wheel_of(rolling)
    need_whole(width, 1, MOST_WIDE)
    begins = wheel.begins()
    found = [_read_from(wheel, interval, many, width - 1) for interval, many in begins]
    # At the first ticks there are fewer INTERVALs than the WIDTH: all from the first one on.
    return max(found + [_read_from(wheel, 0, 0, ticks) for ticks in range(width - 1)])


def _read_from(wheel, interval, many, ticks):
    """How many parts hold an INTERVAL or one behind it, so many ticks behind its own one.

    Each part that is newer than that of the INTERVAL holds one behind it."""
    many, place = wheel.later(interval, many, 0, ticks)
    return (many if place == GONE else place) + 1

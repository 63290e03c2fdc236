"""LIVES of INTERVALs: how long rows stay, for all ticks, and PAPERs on that."""

from namedcuts.errors import BadPaper, TooMany
from namedcuts.kinds import are_whole, is_tuple_of, is_whole, is_word
from namedcuts.live import need_whole
from namedcuts.rolling import FURTHEST_TICK, MOST_NUMBER, need_rolling, place_at, wheel_of
from namedcuts.ticks import GONE, Wheel

MOST_LATE = 40
MOST_LEAST = 40
MOST_IN_LOT = 4000
FIRST = (0, 0, 0, 0)


def life_of(rolling, interval):
    """The LIFE of an INTERVAL, None if it is never taken off."""
    wheel = wheel_of(rolling)
    need_whole(interval, 0, FURTHEST_TICK)
    many, _ = wheel.later(0, 0, GONE, interval)
    return wheel.life(interval, many)


def least_life(rolling):
    """A pair of the least LIFE and the first INTERVAL that has it, or None."""
    return _least(wheel_of(rolling))


def _least(wheel):
    return min([(life, interval) for life, interval in _all_lives(wheel) if life is not None], default=None)


def _all_lives(wheel):
    """Pairs of a LIFE and an INTERVAL, of the first INTERVALs, behind which there are no other LIVES."""
    return [(wheel.life(interval, many), interval) for interval, many in wheel.begins()]


def greatest_life(rolling):
    """A pair of the greatest LIFE and the first INTERVAL that has it; of None, if there is one that has no end."""
    lives = _all_lives(wheel_of(rolling))
    endless = [interval for life, interval in lives if life is None]
    if endless:
        return (None, endless[0])
    most = max([life for life, _ in lives])
    return (most, min([interval for life, interval in lives if life == most]))


def grace(rolling):
    """GRACE, None if no INTERVAL is ever taken off."""
    return _grace_of(wheel_of(rolling))


def _grace_of(wheel):
    least = _least(wheel)
    return None if least is None else least[0] - 1


def least_keep(rolling, late):
    """The least N in all LINES "keep" with which GRACE is at least so late, or None."""
    need_rolling(rolling)
    need_whole(late, 0, MOST_LATE)
    # A greater N may let go sooner: so each is tried, the least one first.
    for number in range(MOST_NUMBER + 1):
        found = _grace_of(Wheel(_with_keep(rolling, number)))
        if found is None or found >= late:
            return number
    return None


def _with_keep(rolling, number):
    """The ROLLING with this number in each LINE "keep"."""
    return tuple([(every, begin, ("keep", number) if roll[0] == "keep" else roll) for every, begin, roll in rolling])


def on_life(rolling, least):
    """A PAPER on a LIFE of at least so much."""
    wheel = wheel_of(rolling)
    need_whole(least, 1, MOST_LEAST)
    shortest = _least(wheel)
    if shortest is not None and shortest[0] < least:
        return ("gone", shortest[1], shortest[0])
    return ("lot", _lot(wheel, least))


def _lot(wheel, least):
    """All that is come to from the first thing of a LOT; TooMany of too much."""
    found = {FIRST: True}
    waiting = [FIRST]
    while waiting:
        for thing in _nexts(wheel, least, waiting.pop()):
            if thing not in found:
                found[thing] = True
                waiting.append(thing)
        if len(found) > MOST_IN_LOT:
            raise TooMany(MOST_IN_LOT)
    return tuple(sorted(found))


def _nexts(wheel, least, thing):
    """What has to be in a LOT with a thing of it; its PLACE is -1 in what cannot be."""
    phase, many, place, age = thing
    next_phase = (phase + 1) % wheel.period
    more, onward = wheel.step(phase + 1, many, place)
    found = [(next_phase, more, 0, 0)]
    if age + 1 < least:
        found.append((next_phase, more, onward, age + 1))
    return found


def check_life(rolling, least, paper):
    """The first word of a PAPER on a LIFE of at least so much that holds; BadPaper of another one."""
    wheel = wheel_of(rolling)
    need_whole(least, 1, MOST_LEAST)
    if _is_gone(paper):
        _, interval, age = paper
        if not 1 <= age < least or place_at(wheel, interval, age) != GONE:
            raise BadPaper("gone")
        return "gone"
    if not is_tuple_of(paper, 2, 2) or not is_word(paper[0], ("lot",)) or not _is_lot(wheel, least, paper[1]):
        raise BadPaper("form")
    known = {thing: True for thing in paper[1]}
    wanted = [FIRST] + [behind for thing in paper[1] for behind in _nexts(wheel, least, thing)]
    if not all([thing in known for thing in wanted]):
        raise BadPaper("lot")
    return "lot"


def _is_gone(paper):
    """Whether anything is a PAPER of the form "gone"."""
    if not is_tuple_of(paper, 3, 3) or not is_word(paper[0], ("gone",)):
        return False
    return all([is_whole(number) and 0 <= number <= FURTHEST_TICK for number in paper[1:]])


def _is_lot(wheel, least, thing):
    """Whether anything is by its form a LOT."""
    if not is_tuple_of(thing, 0, MOST_IN_LOT) or not all([_is_in_range(wheel, least, item) for item in thing]):
        return False
    return all([one < other for one, other in zip(thing, thing[1:])])


def _is_in_range(wheel, least, thing):
    if not is_tuple_of(thing, 4, 4) or not are_whole(thing):
        return False
    phase, many, place, age = thing
    if not 0 <= phase < wheel.period or not 0 <= age < least:
        return False
    return 0 <= many <= wheel.top and 0 <= place <= wheel.top

"""ROLLINGs that are EVEN, LINES that are IDLE, and the first ticks of a ROLLING as a SCRIPT."""

from math import lcm

from namedcuts.live import need_whole
from namedcuts.rolling import need_rolling, wheel_of
from namedcuts.rolls import HOME, Rolled, rolled_to
from namedcuts.ticks import Wheel

MOST_AS_SCRIPT = 7
LETTERS = "abcdefg"
OPEN = "open"


class Far:
    """Which CLOSED parts of two ROLLINGs, that were alike so far, count no more.

    A part with a number that came to the TOP of both never gets a number again that stands in one of the LINES, and
    none of those with lesser KEYs does. begin is the MOMENT at which the newest such part begins, -1 without any."""

    def __init__(self, top):
        self.top = top
        self.begin = -1

    def rest_of(self, parts):
        """The HOUSEs of the parts that count, and whether there are others."""
        if len(parts) >= self.top:
            self.begin = max(self.begin, parts[self.top - 1][0])
        return tuple([house for begin, house in parts if begin > self.begin]), self.begin >= 0


def are_even(one, other):
    """Whether two ROLLINGs are EVEN."""
    return unlike_tick(one, other) is None


def unlike_tick(one, other):
    """The first UNLIKE tick of two ROLLINGs, or None."""
    first = Rolled(wheel_of(one))
    second = Rolled(wheel_of(other))
    period = lcm(first.wheel.period, second.wheel.period)
    far = Far(max(first.wheel.top, second.wheel.top))
    seen = {}
    spot = (0, (), False)
    while spot not in seen:
        seen[spot] = True
        first.roll_on()
        second.roll_on()
        if first.opened != second.opened or first.parts != second.parts:
            return first.number
        spot = (first.number % period, *far.rest_of(first.parts))
    return None


def idle_lines(rolling):
    """The ascending tuple of the numbers of the IDLE LINES of a ROLLING."""
    need_rolling(rolling)
    return tuple([number for number in range(len(rolling)) if _is_idle(rolling, number)])


def _is_idle(rolling, number):
    less = _without(rolling, number)
    return len(less) > 0 and are_even(rolling, less)


def _without(rolling, number):
    return rolling[:number] + rolling[number + 1:]


def lean(rolling):
    """The LEAN form of a ROLLING."""
    found = need_rolling(rolling)
    idle = idle_lines(found)
    while idle:
        found = _without(found, idle[0])
        idle = idle_lines(found)
    return found


def rolled(rolling, ticks):
    """A FRAME of the first MOMENTs, the LAYOUT behind the last of these ticks, and a SCRIPT that makes it."""
    need_rolling(rolling)
    need_whole(ticks, 1, MOST_AS_SCRIPT)
    names = tuple(["t" + letter for letter in LETTERS[:ticks]])
    facts = tuple([(one, "upto", other) for one, other in zip(names, names[1:])])
    table = rolled_to(Wheel(rolling), ticks)
    bounds = table.bounds_now()
    closed = list(zip(bounds, bounds[1:], table.houses_now()[::-1]))
    parts = [(_closed_name(end), _moment(begin), _moment(end), house) for begin, end, house in closed]
    layout = ((OPEN, _moment(bounds[-1]), "+", HOME), *sorted(parts))
    return (names, facts), layout, _script(bounds, parts)


def _moment(number):
    """The TERM of a MOMENT."""
    return "-" if number == 0 else "t" + LETTERS[number - 1]


def _closed_name(end):
    """The name of the CLOSED part that ends at a MOMENT."""
    return "p" + LETTERS[end - 1]


def _script(bounds, parts):
    """A SCRIPT that makes the parts of the one that is there at first: each BOUND is cut once, the least one first."""
    cuts = [("split", OPEN, _moment(end), _closed_name(end), OPEN) for end in bounds if end > 0]
    # Below the first BOUND all was taken off, if it is not the MOMENT 0.
    gone = [("off", _closed_name(bounds[0]))] if bounds[0] > 0 else []
    moves = [("move", name, house) for name, _, _, house in parts if house != HOME]
    return tuple(cuts + gone + moves)

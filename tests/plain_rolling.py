"""A table that rolls on, interval by interval, told by the words of the document, and rollings to try; made without the
program."""

from math import lcm
from random import Random

EVERIES = (1, 2, 3, 4, 6, 12)


class Table:
    """Parts as lists of the intervals that they hold: the open one, and the closed ones with their houses."""

    def __init__(self, rolling):
        self.rolling = rolling
        self.number = 0
        self.open = [0]
        self.closed = []

    def tick(self):
        self.number += 1
        cut = False
        for every, start, roll in self.rolling:
            if self.number % every != start:
                continue
            if roll[0] == "cut" and not cut:
                cut = True
                self.closed.insert(0, (self.open, "home"))
                self.open = []
            elif roll[0] == "join" and len(self.closed) >= roll[2]:
                some = self.closed[roll[1] - 1:roll[2]]
                held = sorted(interval for intervals, _ in some for interval in intervals)
                self.closed[roll[1] - 1:roll[2]] = [(held, some[0][1])]
            elif roll[0] == "keep":
                self.closed = self.closed[:roll[1]]
            elif roll[0] == "move" and len(self.closed) >= roll[1]:
                self.closed[roll[1] - 1] = (self.closed[roll[1] - 1][0], roll[2])
        self.open.append(self.number)

    def bounds(self):
        return tuple(min(intervals) for intervals in [held for held, _ in self.closed[::-1]] + [self.open])

    def houses(self):
        return tuple(house for _, house in self.closed)

    def place(self, interval):
        for number, held in enumerate([self.open] + [held for held, _ in self.closed]):
            if interval in held:
                return number
        return -1

    def places(self):
        """A dict from the intervals that are still there to their places."""
        return {interval: number for number, held in enumerate([self.open] + [held for held, _ in self.closed])
                for interval in held}


def tables(rolling, ticks):
    """The table behind each tick from 0 to so many: always the same object, as it goes on."""
    table = Table(rolling)
    yield table
    for _ in range(ticks):
        table.tick()
        yield table


def lives_plainly(rolling, ticks):
    """For each interval the ticks that it stayed, None if it still is there behind the last tick."""
    lives = {0: None}
    held = {0}
    for table in tables(rolling, ticks):
        now = set(table.places())
        for interval in held - now:
            lives[interval] = table.number - interval
        for interval in now - held:
            lives[interval] = None
        held = now
    return lives


def period_plainly(rolling):
    return lcm(*[every for every, _, _ in rolling])


def top_plainly(rolling):
    numbers = [thing for _, _, roll in rolling for thing in roll[1:] if isinstance(thing, int)]
    joined = sum(roll[2] - roll[1] for tick in range(period_plainly(rolling)) for every, start, roll in rolling
                 if roll[0] == "join" and tick % every == start)
    return max(numbers, default=0) + joined + 30


def step_plainly(rolling, tick, many, place):
    """What a step by a tick leads to, by the words of the document."""
    top = top_plainly(rolling)
    was = (many, place)
    cut = False
    for every, start, roll in rolling:
        if tick % every != start:
            continue
        if roll[0] == "cut" and not cut:
            cut = True
            many = many + 1
            if place != -1:
                place = place + 1
        if roll[0] == "join" and many >= roll[2]:
            many = many - (roll[2] - roll[1])
            if roll[1] <= place <= roll[2]:
                place = roll[1]
            elif place > roll[2]:
                place = place - (roll[2] - roll[1])
        if roll[0] == "keep" and many > roll[1]:
            many = roll[1]
            if place > roll[1]:
                place = -1
    return tuple(top if before == top else min(top, behind) for before, behind in zip(was, (many, place)))


def is_lot_plainly(rolling, least, lot):
    """Whether a lot holds."""
    period = period_plainly(rolling)
    if (0, 0, 0, 0) not in lot:
        return False
    for phase, many, place, age in lot:
        more, onward = step_plainly(rolling, phase + 1, many, place)
        new = (phase + 1) % period
        if (new, more, 0, 0) not in lot:
            return False
        if age + 1 < least and (onward == -1 or (new, more, onward, age + 1) not in lot):
            return False
    return True


CUT = ("cut",)
NAMED = (
    ((1, 0, CUT),),
    ((2, 1, CUT), (2, 1, CUT)),
    ((1, 0, CUT), (1, 0, ("keep", 3))),
    ((1, 0, CUT), (1, 0, ("keep", 0))),
    ((1, 0, ("keep", 4)),),
    ((1, 0, CUT), (4, 0, ("join", 1, 4)), (12, 0, ("keep", 9))),
    ((1, 0, CUT), (1, 0, ("join", 8, 9))),
    ((1, 0, CUT), (12, 5, ("join", 1, 9)), (6, 0, ("move", 2, "hut"))),
    ((1, 0, CUT), (12, 5, ("join", 1, 9)), (12, 5, ("join", 2, 4)), (12, 11, ("move", 9, "hut"))),
    ((1, 0, CUT), (12, 5, ("join", 1, 9)), (12, 5, ("join", 1, 5)), (12, 11, ("move", 9, "hut"))),
    ((1, 0, CUT), (1, 0, ("keep", 8)), (12, 3, ("join", 3, 9)), (12, 4, ("join", 1, 5))),
    ((1, 0, CUT), (1, 0, ("keep", 9)), (12, 3, ("join", 3, 9)), (12, 4, ("join", 1, 5))),
    ((3, 2, CUT), (3, 2, ("move", 1, "hut")), (4, 1, ("join", 2, 3)), (6, 5, ("keep", 2))),
    ((1, 0, CUT), (2, 1, ("join", 2, 3)), (3, 0, ("join", 1, 3)), (4, 2, ("move", 3, "hut"))),
    ((1, 0, CUT), (1, 0, ("join", 1, 2)), (1, 0, ("keep", 1))),
)


def mixed_rolling(chance, most=6):
    lines = []
    for _ in range(chance.randint(1, most)):
        every = chance.choice(EVERIES)
        low = chance.randint(1, 6)
        roll = chance.choice((CUT, CUT, ("join", low, chance.randint(low + 1, min(9, low + 4))),
                              ("keep", chance.randint(0, 9)), ("move", low, chance.choice(("home", "hut")))))
        lines.append((every, chance.randrange(every), roll))
    if chance.random() < 0.6:
        lines.insert(chance.randint(0, len(lines)), (1, 0, CUT))
    return tuple(lines[:8])


def rollings_to_try(many, seed):
    """Those that are named here, and so many others."""
    chance = Random(seed)
    return list(NAMED) + [mixed_rolling(chance) for _ in range(many)]

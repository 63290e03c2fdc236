"""LINES of a ROLLING, tick by tick: how many CLOSED parts there are, and in which of them an INTERVAL lies.

Where a ROLLING takes off no parts their numbers may grow without end. They are told as they are here, but for step;
what grows past TOP never counts again, so that all goes on by rounds once the rest has come again."""

from math import lcm

from namedcuts.kinds import is_whole

SPARE = 30
GONE = -1


class Wheel:
    """What the ticks of a ROLLING do: due has the ROLLs of the LINES that are due for each tick modulo the PERIOD."""

    def __init__(self, rolling):
        self.period = 1
        for every, _, _ in rolling:
            self.period = lcm(self.period, every)
        self.due = [[roll for every, begin, roll in rolling if phase % every == begin] for phase in range(self.period)]
        self.top = _top_of(rolling, self.due)
        self.takes_off = any([roll[0] == "keep" for _, _, roll in rolling])

    def tick(self, number, many, place):
        """The number of CLOSED parts and a PLACE behind the tick with a number, by what they are ahead of it."""
        was_cut = False
        for roll in self.due[number % self.period]:
            if roll[0] == "cut" and not was_cut:
                was_cut = True
                many += 1
                place += 0 if place == GONE else 1
            elif roll[0] == "join" and many >= roll[2]:
                many -= roll[2] - roll[1]
                place = _joined(place, roll[1], roll[2])
            elif roll[0] == "keep" and many > roll[1]:
                many = roll[1]
                place = GONE if place > many else place
        return many, place

    def step(self, number, many, place):
        """What a STEP by the tick with a number leads to."""
        more, onward = self.tick(number, many, place)
        return self._up_to_top(many, more), self._up_to_top(place, onward)

    def _up_to_top(self, was, new):
        return self.top if was == self.top else min(new, self.top)

    def spot(self, number, many, place):
        """What the ticks behind one hang on."""
        return (number % self.period, min(many, self.top), min(place, self.top))

    def later(self, number, many, place, ticks):
        """The number of CLOSED parts and a PLACE so many ticks behind the tick with a number."""
        seen = {}
        gone = 0
        while gone < ticks:
            spot = self.spot(number + gone, many, place)
            if spot in seen:
                was_gone, was_many, was_place = seen[spot]
                rounds, rest = divmod(ticks - gone, gone - was_gone)
                many += rounds * (many - was_many)
                place += rounds * (place - was_place)
                return self._plainly(number + gone, many, place, rest)
            seen[spot] = (gone, many, place)
            gone += 1
            many, place = self.tick(number + gone, many, place)
        return many, place

    def _plainly(self, number, many, place, ticks):
        for ahead in range(ticks):
            many, place = self.tick(number + ahead + 1, many, place)
        return many, place

    def begins(self):
        """Pairs of each INTERVAL and the number of CLOSED parts behind its tick, until these come again."""
        seen = {}
        found = []
        many = 0
        while self.spot(len(found), many, GONE) not in seen:
            seen[self.spot(len(found), many, GONE)] = True
            found.append((len(found), many))
            many, _ = self.tick(len(found), many, GONE)
        return found

    def life(self, interval, many):
        """The LIFE of an INTERVAL, by the number of CLOSED parts behind its tick."""
        if not self.takes_off:
            return None
        seen = {}
        place = 0
        age = 0
        while place != GONE:
            spot = self.spot(interval + age, many, place)
            if spot in seen:
                return None
            seen[spot] = True
            age += 1
            many, place = self.tick(interval + age, many, place)
        return age


def _top_of(rolling, due):
    """The TOP of a ROLLING, by what is due at the ticks of one PERIOD."""
    numbers = [thing for _, _, roll in rolling for thing in roll[1:] if is_whole(thing)]
    joined = sum([roll[2] - roll[1] for rolls in due for roll in rolls if roll[0] == "join"])
    return max(numbers, default=0) + joined + SPARE


def _joined(place, first, last):
    """The PLACE behind "join" that is done."""
    if place > last:
        return place - (last - first)
    return first if place >= first else place

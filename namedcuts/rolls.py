"""The parts of a ROLLING on their way, with the MOMENTS at which they begin and their HOUSEs."""

HOME = "home"


class Rolled:
    """The parts behind a tick of a Wheel: parts are pairs of the number of the MOMENT at which a CLOSED one begins and
    its HOUSE, the newest first; opened is the number of that at which the OPEN one begins."""

    def __init__(self, wheel):
        self.wheel = wheel
        self.number = 0
        self.opened = 0
        self.parts = []

    def roll_on(self):
        """Does the next tick."""
        self.number += 1
        for roll in self.wheel.due[self.number % self.wheel.period]:
            self._do(roll)

    def _do(self, roll):
        word = roll[0]
        # A second cut at one tick finds the OPEN part as the first one left it.
        if word == "cut" and self.opened != self.number:
            self.parts.insert(0, (self.opened, HOME))
            self.opened = self.number
        elif word == "join" and len(self.parts) >= roll[2]:
            first, last = roll[1] - 1, roll[2] - 1
            self.parts[first:last + 1] = [(self.parts[last][0], self.parts[first][1])]
        elif word == "keep":
            del self.parts[roll[1]:]
        elif word == "move" and len(self.parts) >= roll[1]:
            self.parts[roll[1] - 1] = (self.parts[roll[1] - 1][0], roll[2])

    def bounds_now(self):
        """The BOUNDS."""
        return (*[begin for begin, _ in self.parts[::-1]], self.opened)

    def houses_now(self):
        """The HOUSES."""
        return tuple([house for _, house in self.parts])


def rolled_to(wheel, tick):
    """The parts behind the tick with a number."""
    table = Rolled(wheel)
    for _ in range(tick):
        table.roll_on()
    return table

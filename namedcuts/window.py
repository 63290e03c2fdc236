"""A WINDOW: a ROLLING with true MOMENTS, and rows in its parts."""

from namedcuts.errors import BadNumber, Late, Missing
from namedcuts.live import is_key, need_key, need_row_text, rows_between
from namedcuts.rolling import wheel_of
from namedcuts.rolls import Rolled
from namedcuts.ticks import GONE


class Window:
    """A WINDOW of a ROLLING, at first without ticks and rows."""

    def __init__(self, rolling):
        self.table = Rolled(wheel_of(rolling))
        self.rolling = rolling
        self.came = []
        self.rows = {}

    @property
    def moments(self):
        """The tuple of the MOMENTS that came."""
        return tuple(self.came)

    def tick(self, moment):
        """The next tick comes at a MOMENT. The ascending tuple of the rows that were taken off with their parts."""
        need_key(moment)
        if self.came and moment < self.came[-1]:
            raise BadNumber(moment)
        self.came.append(moment)
        self.table.roll_on()
        gone = self._below(self._low_at(self.table.bounds_now()[0]))
        for key, _ in gone:
            del self.rows[key]
        return gone

    def _below(self, low):
        """The ascending tuple of the rows with lesser KEYs than the value of a MOMENT."""
        return () if low == "-" else tuple(sorted([(key, text) for key, text in self.rows.items() if key < low]))

    def put(self, key, text):
        """Puts a row. The number of its part."""
        need_key(key)
        need_row_text(text)
        number = self._number_of(key)
        if number == GONE:
            raise Late(key)
        self.rows[key] = text
        return number

    def number_at(self, key):
        """The number of the part of a KEY, or -1."""
        need_key(key)
        return self._number_of(key)

    def _number_of(self, key):
        begins = [self.table.opened, *[begin for begin, _ in self.table.parts]]
        # Parts may be without KEYs: the newest one that does not begin behind the KEY has it.
        for number, begin in enumerate(begins):
            if begin == 0 or self.came[begin - 1] <= key:
                return number
        return GONE

    def __getitem__(self, at):
        if not is_key(at) or at not in self.rows:
            raise Missing(at)
        return self.rows[at]

    def __len__(self):
        return len(self.rows)

    def __iter__(self):
        raise TypeError("a window is not gone through")

    def closed(self):
        """The tuple of (LO, HI, HOUSE) of the CLOSED parts by their numbers."""
        ends = [self.table.opened, *[begin for begin, _ in self.table.parts]]
        return tuple([(self._low_at(begin), self._low_at(end), house)
                      for (begin, house), end in zip(self.table.parts, ends)])

    def _low_at(self, number):
        """The value of the MOMENT with a number, "-" of the MOMENT 0."""
        return "-" if number == 0 else self.came[number - 1]

    def ask(self, low, high):
        """The ascending tuple of the rows with KEYs from low on, less than high."""
        need_key(low)
        need_key(high)
        return rows_between(self.rows, low, high)

    def __eq__(self, other):
        if not isinstance(other, Window):
            return False
        return self.rolling == other.rolling and self.came == other.came and self.rows == other.rows

"""A STORE: a table in PARTs with true values, which does what is decided."""

from namedcuts.errors import (
    BadDeed, BadJournal, BadOrder, BadPart, Bound, CutError, Missing, NoPart, Outside, Overlaps, Stopped,
    Unbound)
from namedcuts.frames import order_of
from namedcuts.homes import home_in, parts_between, rows_of, spans_apart, worth_at
from namedcuts.kinds import is_tuple_of, is_word
from namedcuts.live import is_key, need_key, need_row_text, need_whole, rows_between
from namedcuts.scales import Values, value_of
from namedcuts.stops import bounds_in, is_apart, is_deed, stop_ahead, terms_of
from namedcuts.tables import Table
from namedcuts.trials import Trial

MOST_JOURNAL = 400


class Store:
    """A STORE of a FRAME, at first with one PART. now is its Table."""

    def __init__(self, frame):
        self.order = order_of(frame)
        self.frame = frame
        self.gaps = self.order.least_gaps()
        self.now = Table()

    @classmethod
    def of(cls, frame, journal):
        """A STORE in which the things of a JOURNAL are done, one behind the other."""
        store = cls(frame)
        if not is_tuple_of(journal, 0, MOST_JOURNAL):
            raise BadJournal(None)
        for number, thing in enumerate(journal):
            if not store.does(thing):
                raise BadJournal(number)
        return store

    def does(self, thing):
        """Does a thing of a JOURNAL. Whether it is one, and is not refused."""
        try:
            return self._does_thing(thing)
        except (CutError, Missing):
            return False

    def _does_thing(self, thing):
        if is_tuple_of(thing, 3, 3) and is_word(thing[0], ("bind",)):
            self.bind(thing[1], thing[2])
        elif is_tuple_of(thing, 3, 3) and is_word(thing[0], ("put",)):
            self.put(thing[1], thing[2])
        elif is_tuple_of(thing, 2, 2) and is_word(thing[0], ("do",)):
            self.do(thing[1])
        elif is_tuple_of(thing, 2, 2) and is_word(thing[0], ("take",)):
            self.take(thing[1])
        else:
            return False
        return True

    @property
    def base(self):
        """The FRAME."""
        return self.frame

    @property
    def journal(self):
        """The JOURNAL."""
        return tuple([thing for thing, _ in self.now.past])

    @property
    def edition_now(self):
        """The EDITION."""
        return len(self.now.editions) - 1

    @property
    def bound_names(self):
        """A dict from the NAMEs that have values, ascending, to these."""
        known = self.now.known
        return {name: known[name] for name in self.order.names if name in known}

    @property
    def ranges(self):
        """The ascending tuple of (PART, LO, HI, HOUSE)."""
        parts = self.now.editions[-1]
        return tuple([(name, value_of(parts[name][0]), value_of(parts[name][1]), parts[name][2])
                      for name in sorted(parts)])

    def bind(self, name, value):
        """Gives a NAME a value."""
        need_key(value)
        if not is_word(name, self.order.names):
            raise Unbound(name)
        if name in self.now.known:
            raise Bound(name)
        wrong = [(min(name, other), max(name, other)) for other, worth in self.now.known.items()
                 if self._is_too_near(name, value, other, worth) or self._is_too_near(other, worth, name, value)]
        if wrong:
            one, other = min(wrong)
            raise BadOrder(one, other)
        self.now.do_new(("bind", name, value))

    def _is_too_near(self, one, low, other, high):
        """Whether the other value has to be greater than the one by more than it is."""
        return (one, other) in self.gaps and high - low < self.gaps[one, other]

    def do(self, deed):
        """Does a DEED."""
        if not is_deed(self.order.names, deed):
            raise BadDeed(deed)
        for term in terms_of(deed):
            for name in bounds_in(term):
                if name not in self.now.known:
                    raise Unbound(name)
        self._see_stop(deed)
        if deed[0] == "on":
            self._see_new(deed)
        self.now.do_new(("do", deed))

    def _see_stop(self, deed):
        """Stopped, with the word why a DEED can't be done."""
        parts = self.now.editions[-1]
        word = stop_ahead(parts, deed)
        if word is not None:
            raise Stopped(word)
        if is_apart(Values(self.now.known), parts, deed, self.now.worths(deed)):
            raise Stopped("meet")

    def _see_new(self, deed):
        """Refuses a new PART that has a KEY of another one, or has not all KEYs of the ATTIC under its name."""
        parts = self.now.editions[-1]
        low, high = self.now.worths(deed)
        met = parts_between(parts, low, high)
        if met:
            raise Overlaps(min(met))
        rows = self.now.lofts.get(deed[1], {})
        inside = rows_of((low, high, deed[4]), rows)
        outside = [key for key in rows if key not in inside]
        if outside:
            raise Outside(min(outside))

    def put(self, key, text):
        """Puts a row. The PART."""
        need_key(key)
        need_row_text(text)
        part = self.home(key)
        if part is None:
            raise NoPart(key)
        self.now.do_new(("put", key, text))
        return part

    def take(self, key):
        """Takes a row out. Its TEXT."""
        if not self._has(key):
            raise Missing(key)
        text = self.now.rows[key]
        self.now.do_new(("take", key))
        return text

    def _has(self, thing):
        return is_key(thing) and thing in self.now.rows

    def __getitem__(self, at):
        if not self._has(at):
            raise Missing(at)
        return self.now.rows[at]

    def __contains__(self, at):
        return self._has(at)

    def __len__(self):
        return len(self.now.rows)

    def __iter__(self):
        raise TypeError("a store is not gone through")

    def __eq__(self, other):
        if not isinstance(other, Store):
            return False
        if self.frame != other.frame or self.now.known != other.now.known:
            return False
        if self.now.editions[-1] != other.now.editions[-1]:
            return False
        return self.now.rows == other.now.rows and self.now.lofts == other.now.lofts

    def attic(self):
        """A dict from the names under which rows lie in the ATTIC, ascending, to the ascending tuples of these."""
        lofts = self.now.lofts
        return {name: _sorted_rows(lofts[name]) for name in sorted(lofts)}

    def home(self, key):
        """The HOME of a KEY."""
        need_key(key)
        return home_in(self.now.editions[-1], worth_at(key))

    def reached(self, key):
        """The ascending tuple of the NAMEs with values that a KEY REACHES."""
        need_key(key)
        known = self.now.known
        return tuple([name for name in self.order.names if name in known and known[name] <= key])

    def ask(self, low, high):
        """The ascending tuple of the rows with KEYs from low on, less than high."""
        need_key(low)
        need_key(high)
        return rows_between(self.now.rows, low, high)

    def reads(self, low, high):
        """The tuple of the PARTs in which some KEY from low on, less than high, lies, in the order of KEYs."""
        need_key(low)
        need_key(high)
        return tuple(parts_between(self.now.editions[-1], worth_at(low), worth_at(high)))

    def rows_in(self, part):
        """The ascending tuple of the rows of a PART."""
        parts = self.now.editions[-1]
        if not is_word(part, parts):
            raise BadPart(part)
        return _sorted_rows(rows_of(parts[part], self.now.rows))

    def middle_of(self, part):
        """The KEY of the row in the middle of a PART, or None of fewer than two rows."""
        rows = self.rows_in(part)
        return rows[len(rows) // 2][0] if len(rows) > 1 else None

    def home_then(self, edition, key):
        """The HOME of a KEY behind an EDITION."""
        need_whole(edition, 0, self.edition_now)
        need_key(key)
        return home_in(self.now.editions[edition], worth_at(key))

    def stale(self, edition):
        """STALE of an EDITION."""
        need_whole(edition, 0, self.edition_now)
        spans = spans_apart(self.now.editions[-1], self.now.editions[edition])
        return tuple([(value_of(low), value_of(high)) for low, high in spans])

    def undo(self):
        """Takes back what was done last. Whether there was something."""
        return self.now.undo()

    def redo(self):
        """Does again what was taken back last. Whether there was something."""
        return self.now.redo()

    def copy(self):
        """A STORE that stands likewise, and goes on by itself."""
        other = Store(self.frame)
        other.now = self.now.twin()
        return other

    def trial(self):
        """For a with statement, behind which all is as it was ahead of it."""
        return Trial(self)


def _sorted_rows(rows):
    return tuple(sorted([(key, rows[key]) for key in rows]))


def under(manager, deed):
    """What a deed returns of that which a manager gives to a with statement."""
    with manager as one:
        return deed(one)

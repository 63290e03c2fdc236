"""A live table: what was done to it, and what it holds now."""

from namedcuts.deeds import changed
from namedcuts.homes import HIGHEST, LOWEST, rows_of
from namedcuts.rolls import HOME
from namedcuts.runs import worth_of
from namedcuts.scales import Values
from namedcuts.steps import top_scope
from namedcuts.stops import terms_of

FIRST = "all"


class Table:
    """What a STORE holds.

    known has the values of NAMEs; editions the PARTs behind each DEED, by worths; rows those that lie in PARTs, lofts
    those that lie in the ATTIC, a dict for each name. past are pairs of each thing that was done and what has to be put
    back if it is undone; undone are the things that can be done again, the next one last. Only the lists, and rows, are
    ever changed, all else is replaced: so Tables may share it."""

    def __init__(self):
        self.known = {}
        self.editions = [{FIRST: (LOWEST, HIGHEST, HOME)}]
        self.rows = {}
        self.lofts = {}
        self.past = []
        self.undone = []

    def twin(self):
        """A Table that goes on from here by itself."""
        twin = Table()
        twin.known = self.known
        twin.editions = list(self.editions)
        twin.rows = dict(self.rows)
        twin.lofts = self.lofts
        twin.past = list(self.past)
        twin.undone = list(self.undone)
        return twin

    def do_new(self, thing):
        """Does a thing of a JOURNAL that can be done: what was undone cannot be done again."""
        self._do(thing)
        self.undone = []

    def _do(self, thing):
        if thing[0] == "bind":
            old = self.known
            self.known = {**self.known, thing[1]: thing[2]}
        elif thing[0] == "do":
            old = self._deed(thing[1])
        else:
            old = self._row(thing[1], thing[2] if thing[0] == "put" else None)
        self.past.append((thing, old))

    def _row(self, key, text):
        """Puts a row, or takes it out if there is no TEXT. What was there."""
        old = self.rows.get(key)
        if text is None:
            del self.rows[key]
        else:
            self.rows[key] = text
        return old

    def _deed(self, deed):
        """Does a DEED. The rows and the attic ahead of it, or None if it leaves them as they are."""
        parts = self.editions[-1]
        self.editions.append(changed(Values(self.known), parts, deed, self.worths(deed)))
        if deed[0] not in ("off", "on"):
            return None
        old = (self.rows, self.lofts)
        name = deed[1]
        kept = self.lofts.get(name, {})
        if deed[0] == "off":
            gone = rows_of(parts[name], self.rows)
            self.rows = {key: text for key, text in self.rows.items() if key not in gone}
            kept = {**kept, **gone}
        else:
            self.rows = {**self.rows, **kept}
            kept = {}
        others = {other: self.lofts[other] for other in self.lofts if other != name}
        self.lofts = {**others, name: kept} if kept else others
        return old

    def worths(self, deed):
        """The worths of the TERMs of a DEED."""
        scale = Values(self.known)
        return [worth_of(scale, self.editions[-1], top_scope(), {}, term) for term in terms_of(deed)]

    def undo(self):
        """Takes back what was done last. Whether there was something."""
        if not self.past:
            return False
        thing, old = self.past.pop()
        self.undone.append(thing)
        if thing[0] == "bind":
            self.known = old
        elif thing[0] == "do":
            self.editions.pop()
            if old is not None:
                # What is kept in past may be that of another Table, too: it is not gone on with.
                self.rows, self.lofts = dict(old[0]), old[1]
        else:
            self._row(thing[1], old)
        return True

    def redo(self):
        """Does again what was taken back last. Whether there was something."""
        if not self.undone:
            return False
        self._do(self.undone.pop())
        return True

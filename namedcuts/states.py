"""CLOSED STATEs: what is left open when some NAMEs have been looked at.

A STATE is the set of its OPEN CUTs here: a CLOSED one has in YES just the NAMEs that all of these have, in NO those
that none of them has."""


class States:
    """The CLOSED STATEs of the CUTs of a Lattice, each of which has the thing that a MAP tells."""

    def __init__(self, lattice, things):
        self.lattice = lattice
        self.things = things
        self.lots = _lots_of(things)
        self.known = {}

    def is_settled(self, which):
        """Whether all OPEN CUTs have the same thing."""
        return any([not which & ~lot for lot in self.lots])

    def answered(self, which):
        """Triples of each NAME that is in neither YES nor NO, and the STATEs that its ANSWERs make: no, yes."""
        found = [(name, which & ~had, which & had) for name, had in self.lattice.had.items()]
        return [(name, no, yes) for name, no, yes in found if no and yes]

    def least_of(self, which):
        """The least LOOKs by which the things of all OPEN CUTs are found."""
        if which not in self.known:
            self.known[which] = 0 if self.is_settled(which) else 1 + min(
                [max(self.least_of(no), self.least_of(yes)) for _, no, yes in self.answered(which)])
        return self.known[which]

    def tree_for(self, which):
        """A TREE for the OPEN CUTs that has no more DEPTH than that."""
        least = self.least_of(which)
        if least == 0:
            return self.things[(which & -which).bit_length() - 1]
        name, no, yes = [(name, no, yes) for name, no, yes in self.answered(which)
                         if max(self.least_of(no), self.least_of(yes)) < least][0]
        return (name, self.tree_for(no), self.tree_for(yes))

    def asker(self):
        """The rows of an ASKER that HOLDS, its first K the LEAST LOOKS."""
        every = self.lattice.every
        found = {every: self.least_of(every)}
        waiting = {every: True}
        while waiting:
            # An ANSWER leaves fewer CUTs open: so what the most CUTs are open in gets no greater K any more.
            which = max(waiting, key=_size)
            del waiting[which]
            least = found[which] - 1
            for _, no, yes in self.answered(which) if least > 0 else []:
                met = self._met(found, least, no, yes)
                found[met] = max(least, found.get(met, 0))
                waiting[met] = True
        return tuple(sorted([(*self._names_of(which), least) for which, least in found.items()]))

    def _met(self, found, least, no, yes):
        """One of two STATEs that takes so many LOOKs at least: one that there is already, if it can be."""
        able = [which for which in (no, yes) if self.least_of(which) >= least]
        there = [which for which in able if which in found]
        return there[0] if there else able[0]

    def _names_of(self, which):
        """The pair of YES and NO."""
        had = self.lattice.had
        return (tuple([name for name in had if not which & ~had[name]]),
                tuple([name for name in had if not which & had[name]]))

    def is_asker(self, rows):
        """Whether rows, an ASKER by its form, HOLD."""
        known = {self._opened(yes, no): least for yes, no, least in rows}
        return all([self._holds(known, which, least) for which, least in known.items()])

    def _opened(self, yes, no):
        """The STATE with these NAMEs."""
        had = self.lattice.had
        which = self.lattice.every
        for name in yes:
            which &= had[name]
        for name in no:
            which &= ~had[name]
        return which

    def _holds(self, known, which, least):
        if least > 0 and self.is_settled(which):
            return False
        if least < 2:
            return True
        return all([max(known.get(no, 0), known.get(yes, 0)) >= least - 1 for _, no, yes in self.answered(which)])


def _lots_of(things):
    """The list of which CUTs have each of the things of a MAP."""
    lots = {}
    for number, thing in enumerate(things):
        lots[thing] = lots.get(thing, 0) | 1 << number
    return list(lots.values())


def _size(which):
    """The number of CUTs in a set."""
    bits = f"{which:b}"
    return bits.count("1")

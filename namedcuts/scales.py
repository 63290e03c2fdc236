"""Worths of TERMs, by which a SCRIPT is done: in one WORLD, or in all.

A worth in one WORLD is a pair that is ordered as the values are; one in all WORLDs is which CUTS HAVE the TERM."""

from namedcuts.lattice import Lattice
from namedcuts.order import Order
from namedcuts.terms import ENDS


class Values:
    """The worths in a WORLD, by the values of its NAMEs."""

    def __init__(self, known):
        self.known = {name: (0, number) for name, number in known.items()}

    def worth(self, bound):
        """The worth of a NAME or an end."""
        if bound in ENDS:
            return (-1, 0) if bound == "-" else (1, 0)
        return self.known[bound]

    def least(self, many):
        """The worth of the least TERM, by those of some."""
        return min(many)

    def greatest(self, many):
        """The worth of the greatest TERM, by those of some."""
        return max(many)

    def is_upto(self, one, other):
        """Whether the one is not greater than the other."""
        return one <= other

    def written(self, worth):
        """The value that is the worth."""
        return value_of(worth)


def value_of(worth):
    """The value that a worth in one WORLD is: an integer, "-" or "+"."""
    if worth[0] == 0:
        return worth[1]
    return "-" if worth[0] < 0 else "+"


class Bounds:
    """The worths in all WORLDs of the Order of a Lattice.

    They may be worths of a Lattice with fewer FACTS and the same numbers: what it has no CUT for does not matter."""

    def __init__(self, lattice):
        self.lattice = lattice
        self.answers = {}
        self.forms = {}

    def worth(self, bound):
        """The worth of a NAME or an end."""
        return self.lattice.of_term(bound)

    def least(self, many):
        """The worth of the least TERM, by those of some."""
        found = many[0]
        for which in many[1:]:
            found |= which
        return found

    def greatest(self, many):
        """The worth of the greatest TERM, by those of some."""
        found = many[0]
        for which in many[1:]:
            found &= which
        return found

    def is_upto(self, one, other):
        """Whether the one is not greater than the other; None if this is so in some WORLDs alone."""
        asked = (one & self.lattice.every, other & self.lattice.every)
        if asked not in self.answers:
            self.answers[asked] = self._compared(asked[0], asked[1])
        return self.answers[asked]

    def _compared(self, one, other):
        if not other & ~one:
            return True
        return False if self.lattice.is_ahead(other, one) else None

    def written(self, worth):
        """The NORMAL form of the TERM that has the worth."""
        which = worth & self.lattice.every
        if which not in self.forms:
            self.forms[which] = self.lattice.normal(which)
        return self.forms[which]

    def lot(self, low, high):
        """Which CUTS are between two worths."""
        return self.lattice.every & low & ~high

    def narrowed(self, one, other):
        """The two Bounds with one more FACT each, by which the WORLDs part if is_upto of two worths is None."""
        order = self.lattice.order
        first, second = self._pair(one, other)
        if order.leads(first, second):
            facts = ((second, "upto", first), (first, "ahead", second))
        else:
            facts = ((first, "upto", second), (second, "ahead", first))
        orders = [Order(order.names, order.facts + (fact,)) for fact in facts]
        return [Bounds(Lattice(narrow, self.lattice.named)) for narrow in orders]

    def _pair(self, one, other):
        """The first two NAMEs of the NORMAL forms of two worths of which it is not told how they stand.

        Of NAMEs that are upto each other NORMAL forms have the first one alone: so no two of these meet here."""
        order = self.lattice.order
        groups = [self.lattice.greatests(worth & self.lattice.every) for worth in (one, other)]
        names = sorted(set([name for both in groups for group in both for name in group]))
        pairs = [(low, high) for number, low in enumerate(names) for high in names[number + 1:]]
        return [(low, high) for low, high in pairs
                if not order.leads_past(low, high) and not order.leads_past(high, low)][0]

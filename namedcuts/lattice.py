"""The CUTS of an Order, one within another, and what TERMs come to among them.

A CUT is the set of its NAMEs, an integer as an Order has it; what HAVE a TERM is an integer too: the bit N is set
if the CUT with the number N, in the order of the document, HAS it."""


class Lattice:
    """The CUTS of an Order: masks are their sets of NAMEs, named the tuples of these, had tells which have a NAME.

    It may be made with the named of an Order with fewer FACTS. So it goes on to use their numbers, of which every
    has only those of its own CUTS; all others are to be left out of what its methods are asked of."""

    def __init__(self, order, named=None):
        self.order = order
        self.named = all_named(order) if named is None else named
        self.masks = [mask_of(order, names) for names in self.named]
        self.every = sum([1 << number for number, cut in enumerate(self.masks) if is_closed(order, cut)])
        self.had = {name: self.cuts_with(1 << place) for place, name in enumerate(order.names)}

    def cuts_with(self, mask):
        """Which CUTS have all of some NAMEs, by a set of these."""
        return self.every & sum([1 << number for number, cut in enumerate(self.masks) if cut & mask == mask])

    def cuts_above(self, which):
        """Which CUTS have one of some CUTS within."""
        found = 0
        for cut in self.lowest(which):
            found |= self.cuts_with(cut)
        return found

    def first(self, which):
        """The first one of some CUTS, as a tuple of NAMEs."""
        return self.named[(which & -which).bit_length() - 1]

    def of_term(self, term):
        """Which CUTS HAVE a TERM."""
        if isinstance(term, str):
            return self._of_bound(term)
        many = [self.of_term(part) for part in term[1:]]
        which = many[0]
        for more in many[1:]:
            which = which | more if term[0] == "least" else which & more
        return which

    def _of_bound(self, bound):
        if bound == "-":
            return self.every
        return 0 if bound == "+" else self.had[bound]

    def lowest(self, which):
        """Those of some CUTS, as sets of NAMEs, that have no other one of them within."""
        found = []
        for number, cut in enumerate(self.masks):
            if which >> number & 1 and not any([low & cut == low for low in found]):
                found.append(cut)
        return found

    def highest(self, which):
        """Those of some CUTS, as sets of NAMEs, that are within no other one of them."""
        found = []
        for number, cut in reversed(list(enumerate(self.masks))):
            if which >> number & 1 and not any([high & cut == cut for high in found]):
                found.append(cut)
        return found

    def greatests(self, which):
        """GREATESTS of a TERM that these CUTS HAVE."""
        return tuple(sorted([tops(self.order, cut) for cut in self.lowest(which)]))

    def leasts(self, which):
        """LEASTS of a TERM that these CUTS HAVE."""
        return tuple(sorted([bottoms(self.order, cut) for cut in self.highest(self.every & ~which)]))

    def is_ahead(self, one, other):
        """Whether a TERM that some CUTS HAVE is less in all WORLDs than one that others HAVE.

        It is the greatest of what is the least of each of its LEASTS, the other one the least of what is the
        greatest of each of its GREATESTS. So each such least has to be less than each such greatest; if no
        STRICT WAY leads from the one to the other, the FACTS that put it the other way about make no ring."""
        if one == other:
            return False
        for lows in self.leasts(one):
            for highs in self.greatests(other):
                if not any([self.order.leads_past(low, high) for low in lows for high in highs]):
                    return False
        return True

    def normal(self, which):
        """The NORMAL form of a TERM that these CUTS HAVE."""
        groups = self.greatests(which)
        if groups == ():
            return "+"
        if groups == ((),):
            return "-"
        return _joined("least", [_joined("greatest", group) for group in groups])


def _joined(word, terms):
    """A TERM of some with this word; of one alone this one itself."""
    return (word, *terms) if len(terms) > 1 else terms[0]


def mask_of(order, names):
    """The set of some NAMEs."""
    return sum([1 << order.places[name] for name in names])


def names_of(order, mask):
    """The ascending tuple of the NAMEs in a set."""
    return tuple([name for place, name in enumerate(order.names) if mask >> place & 1])


def is_closed(order, mask):
    """Whether a set of NAMEs has with each NAME all from which a WAY leads to it."""
    return not any([mask >> place & 1 and low & ~mask for place, low in enumerate(order.below)])


def all_named(order):
    """The CUTS of an Order as tuples of NAMEs, the fewest NAMEs first."""
    masks = [mask for mask in range(1 << len(order.names)) if is_closed(order, mask)]
    return sorted([names_of(order, mask) for mask in masks], key=lambda names: (len(names), names))


def is_step(order, one, other):
    """Whether a CUT can come next behind another one in a ROW, both as sets of NAMEs."""
    new = other & ~one
    if one & ~other or not new:
        return False
    return not any([new >> place & 1 and past & new for place, past in enumerate(order.past)])


def tops(order, mask):
    """TOPS of a CUT, by its set of NAMEs."""
    return names_of(order, _ends(order.above, order.below, mask))


def bottoms(order, mask):
    """BOTTOMS of a CUT, by its set of NAMEs."""
    return names_of(order, _ends(order.below, order.above, ~mask))


def _ends(onward, back, mask):
    """The set of those of some NAMEs that go on to no other one of them, but to such as go back to them.

    Of NAMEs that go to one another only the first one counts."""
    found = 0
    for place in range(len(onward)):
        onto = onward[place] & mask
        equal = onto & back[place]
        if mask >> place & 1 and onto == equal and not equal & ((1 << place) - 1):
            found |= 1 << place
    return found

"""PARTs one behind the other, or in a ring, by which CUTS are in each of them: a lot of CUTS for each name."""


def all_ahead(lattice, lots):
    """A dict from each name to the list of those that have some KEY in some WORLD not greater than one of its own.

    A CUT that is within another one is in some ROW with it, so in some WORLD."""
    above = {name: lattice.cuts_above(lots[name]) for name in lots}
    return {name: [one for one in lots if one != name and above[one] & lots[name]] for name in lots}


def chain_or_ring(lattice, lots):
    """("chain", ORDER) or ("ring", ROUND) of lots, none without CUTS, that have no CUT twice."""
    ahead = all_ahead(lattice, lots)
    chain = []
    while len(chain) < len(lots):
        free = [name for name in lots if name not in chain and not any([one not in chain for one in ahead[name]])]
        if not free:
            return ("ring", _round(lattice, lots, _ring(ahead, chain)))
        chain.append(free[0])
    return ("chain", tuple(chain))


def _ring(ahead, chain):
    """Names, each of them ahead of the next one, and the last one of the first: none of those that have their place.

    Each of the others has one of them ahead, so that going from one to one ahead comes back at last."""
    way = [[name for name in ahead if name not in chain][0]]
    while way[-1] not in way[:-1]:
        way.append([one for one in ahead[way[-1]] if one not in chain][0])
    return way[way.index(way[-1]) + 1:][::-1]


def _round(lattice, lots, names):
    """The ROUND of names in a ring."""
    return tuple([_link(lattice, name, lots[name], lots[behind]) for name, behind in zip(names, names[1:] + names[:1])])


def _link(lattice, name, lot, behind):
    """A triple of a name, a CUT of its lot, and a CUT of the lot behind that has it within."""
    high = lattice.first(lattice.cuts_above(lot) & behind)
    lows = [cut for number, cut in enumerate(lattice.named)
            if lot >> number & 1 and all([bound in high for bound in cut])]
    return (name, lows[0], high)

"""ROWs as tuples of the numbers of their CUTs in a Lattice, and which ROWs of some meet a CUT."""

from namedcuts.cuts import reached
from namedcuts.lattice import is_step


def all_nexts(lattice):
    """For each CUT the list of the numbers of those that can come next behind it in a ROW."""
    masks = lattice.masks
    return [[number for number, behind in enumerate(masks) if is_step(lattice.order, cut, behind)] for cut in masks]


def row_around(nexts, which):
    """A ROW without any of some CUTs, or None; the list of the CUTs to which one without them comes, ascending.

    The first CUT is () and the last one has all NAMEs, as a Lattice numbers them."""
    came = {} if which & 1 else {0: None}
    queue = list(came)
    done = 0
    while done < len(queue):
        number = queue[done]
        done += 1
        for behind in nexts[number]:
            if behind not in came and not which >> behind & 1:
                came[behind] = number
                queue.append(behind)
    row = []
    number = len(nexts) - 1 if len(nexts) - 1 in came else None
    while number is not None:
        row.append(number)
        number = came[number]
    return row[::-1] if row else None, sorted(queue)


def all_rows(lattice):
    """The list of all ROWs."""
    nexts = all_nexts(lattice)
    rows = []
    waiting = [(0,)]
    while waiting:
        row = waiting.pop()
        if row[-1] == len(nexts) - 1:
            rows.append(row)
        waiting.extend([(*row, behind) for behind in nexts[row[-1]]])
    return rows


def row_in(lattice, world):
    """The ROW of a WORLD."""
    cuts = [(), *[reached(lattice.order, world, key) for key in sorted(set(world))]]
    return tuple([lattice.named.index(cut) for cut in cuts])


class Rows:
    """Some ROWs of a Lattice; sets of them are integers: the bit N is set if the ROW with the number N is in."""

    def __init__(self, lattice, rows):
        self.lattice = lattice
        self.rows = rows
        self.all_of_them = (1 << len(rows)) - 1
        self.through = [0 for _ in lattice.named]
        for number, row in enumerate(rows):
            for cut in row:
                self.through[cut] |= 1 << number

    def meeting(self, which):
        """The ROWs that have one of some CUTs."""
        found = 0
        for number, rows in enumerate(self.through):
            if which >> number & 1:
                found |= rows
        return found

    def ahead(self, one, other):
        """The ROWs in whose WORLDs the one TERM is less than the other."""
        return self.meeting(self.lattice.of_term(one) & ~self.lattice.of_term(other))

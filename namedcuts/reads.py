"""Which PARTs a question reads: in some WORLDs, in all, or never; PAPERs on that; the FEWEST and the MOST."""

from namedcuts.asks import asked_in, see_ask
from namedcuts.cuts import is_cut_of, is_row_among, need_world
from namedcuts.errors import BadPaper, BadPart
from namedcuts.frames import order_of
from namedcuts.kinds import is_tuple_of, is_word
from namedcuts.lattice import Lattice
from namedcuts.layouts import see_layout
from namedcuts.maps import lots_apart
from namedcuts.rows import all_nexts, row_around, row_in

FORMS_OF_PAPER = ("row", "closed")


class Reading:
    """What an ASK asks of the PARTs of a LAYOUT: lots tells which CUTs ARE in each, asked which are ASKED."""

    def __init__(self, order, layout, ask):
        self.lattice = Lattice(order)
        self.lots = lots_apart(self.lattice, layout)
        self.asked = asked_in(self.lattice, ask)

    def hit(self, part):
        """Which CUTs of a PART are ASKED."""
        return self.lots[part] & self.asked

    def part_at(self, number):
        """The PART of a CUT, None of a gap."""
        found = [part for part, lot in self.lots.items() if lot >> number & 1]
        return found[0] if found else None

    def is_asked_at(self, number):
        """Whether a CUT is ASKED."""
        return bool(self.asked >> number & 1)

    def cuts_at(self, numbers):
        """The tuple of the CUTs with these numbers."""
        return tuple([self.lattice.named[number] for number in numbers])


def order_for(frame, layout, ask):
    """The Order of a FRAME; BadLayout, then BadAsk of what is none."""
    order = order_of(frame)
    see_layout(order, layout)
    see_ask(order, ask)
    return order


def reads(frame, layout, ask):
    """A dict from the names of the PARTs to pairs: how often each is read, and whether it is asked WHOLE."""
    reading = Reading(order_for(frame, layout, ask), layout, ask)
    nexts = all_nexts(reading.lattice)
    return {part: (_how_often(reading, nexts, part), _is_whole(reading, part)) for part in reading.lots}


def _how_often(reading, nexts, part):
    hit = reading.hit(part)
    if not hit:
        return "never"
    row, _ = row_around(nexts, hit)
    return "always" if row is None else "sometimes"


def _is_whole(reading, part):
    lot = reading.lots[part]
    return lot != 0 and lot == reading.hit(part)


def on_always(frame, layout, ask, part):
    """A PAPER on whether a PART is read always."""
    order = order_for(frame, layout, ask)
    _need_part(layout, part)
    reading = Reading(order, layout, ask)
    row, closed = row_around(all_nexts(reading.lattice), reading.hit(part))
    return ("closed", reading.cuts_at(closed)) if row is None else ("row", reading.cuts_at(row))


def _need_part(layout, thing):
    """BadPart of what is no name of a PART of the LAYOUT."""
    if not is_part_of(layout, thing):
        raise BadPart(thing)


def is_part_of(layout, thing):
    """Whether anything is the name of a PART of a LAYOUT."""
    return is_word(thing, [name for name, _, _, _ in layout])


def check_always(frame, layout, ask, part, paper):
    """The first word of a PAPER on whether a PART is read always that holds; BadPaper of another one."""
    order = order_for(frame, layout, ask)
    _need_part(layout, part)
    if not _is_always_paper(order, paper):
        raise BadPaper("form")
    reading = Reading(order, layout, ask)
    word, shown = paper
    hit = reading.hit(part)
    numbers = [reading.lattice.named.index(cut) for cut in shown]
    if any([hit >> number & 1 for number in numbers]):
        raise BadPaper(word)
    if word == "row" and not is_row_among(order, shown):
        raise BadPaper("row")
    if word == "closed" and not _is_closed_around(all_nexts(reading.lattice), hit, numbers):
        raise BadPaper("closed")
    return word


def _is_always_paper(order, paper):
    if not is_tuple_of(paper, 2, 2) or not is_word(paper[0], FORMS_OF_PAPER) or not isinstance(paper[1], tuple):
        return False
    return all([is_cut_of(order, cut) for cut in paper[1]])


def _is_closed_around(nexts, hit, numbers):
    """Whether some CUTs, none of which is hit, are all to which a ROW can come as long as it has none that is."""
    if sorted(set(numbers)) != numbers or len(nexts) - 1 in numbers:
        return False
    wanted = [0] + [behind for number in numbers for behind in nexts[number]]
    return all([hit >> number & 1 or number in numbers for number in wanted])


def read_in(frame, layout, ask, world):
    """The tuple of the names of the PARTs that are READ in a WORLD, in their order."""
    order = order_for(frame, layout, ask)
    need_world(order, world)
    reading = Reading(order, layout, ask)
    found = {}
    for number in row_in(reading.lattice, world):
        part = reading.part_at(number)
        if part is not None and reading.is_asked_at(number):
            found[part] = True
    return tuple(list(found))


def few_reads(frame, layout, ask):
    """A pair of the FEWEST READS and a ROW in which just so many PARTs are READ."""
    return _best(Reading(order_for(frame, layout, ask), layout, ask), 1)


def most_reads(frame, layout, ask):
    """A pair of the MOST READS and a ROW in which just so many PARTs are READ."""
    return _best(Reading(order_for(frame, layout, ask), layout, ask), -1)


def _best(reading, sign):
    """The least number of PARTs that are READ, taken with a sign, and a ROW for it.

    The CUTs of a PART in a ROW have none of another PART between them. So it counts on the way only whether the
    PART of the last CUT has been READ: for each CUT, and with this or without, the best way to it is kept."""
    nexts = all_nexts(reading.lattice)
    parts = [reading.part_at(number) for number in range(len(nexts))]
    is_hit = [part is not None and reading.is_asked_at(number) for number, part in enumerate(parts)]
    best = {(0, is_hit[0]): (sign if is_hit[0] else 0, (0,))}
    for number in range(len(nexts)):
        for counted in (False, True):
            cost, row = best.get((number, counted), (None, ()))
            for behind in nexts[number] if row else []:
                was = counted and parts[behind] == parts[number]
                spot = (behind, was or is_hit[behind])
                more = (cost + (sign if is_hit[behind] and not was else 0), (*row, behind))
                best[spot] = min(more, best.get(spot, more))
    found = min([best[spot] for spot in best if spot[0] == len(nexts) - 1])
    return sign * found[0], reading.cuts_at(found[1])

"""PATHs: where a row lies, and what lies about it, in each EDITION of a script."""

from namedcuts.cases import stage_with
from namedcuts.cuts import need_cut
from namedcuts.errors import BadPath, BadQuestion, TooMany
from namedcuts.frames import order_of
from namedcuts.kinds import is_name, is_tuple_of
from namedcuts.layouts import MOST_PARTS, in_two, see_layout
from namedcuts.terms import has_in

MOST_EDITIONS = 5
NO_EDITION = ("need",)


def need_path(thing):
    """The thing itself; BadPath of what is no PATH."""
    if not is_tuple_of(thing, 1, MOST_EDITIONS):
        raise BadPath(())
    for edition, triple in enumerate(thing):
        if not _is_triple(triple):
            raise BadPath((edition,))
    return thing


def _is_triple(thing):
    """Whether anything is a triple of a SEAT and the SITEs BELOW and ABOVE it."""
    if not is_tuple_of(thing, 3, 3) or not (is_tuple_of(thing[0], 0, 0) or is_site(thing[0])):
        return False
    seat, below, above = thing
    if not _are_sites(below) or not _are_sites(above):
        return False
    sites = [*below, *above] if seat == () else [seat, *below, *above]
    return len(set(sites)) == len(sites)


def is_site(thing):
    """Whether anything is a SITE."""
    return is_tuple_of(thing, 2, 2) and is_name(thing[0]) and is_name(thing[1])


def _are_sites(thing):
    """Whether anything is an ascending tuple of SITEs, no more than there are PARTs."""
    if not is_tuple_of(thing, 0, MOST_PARTS) or not all([is_site(site) for site in thing]):
        return False
    return all([one < other for one, other in zip(thing, thing[1:])])


def path_of(frame, layouts, cut):
    """The PATH of a CUT by a tuple of LAYOUTs; BadQuestion if the CUT IS in two PARTs of one."""
    order = order_of(frame)
    if not is_tuple_of(layouts, 1, MOST_EDITIONS):
        raise BadPath(())
    for layout in layouts:
        see_layout(order, layout)
    need_cut(order, cut)
    path = [_triple([(name, house, has_in(cut, low), has_in(cut, high)) for name, low, high, house in layout])
            for layout in layouts]
    if None in path:
        raise BadQuestion("the CUT is in two PARTs")
    return tuple(path)


def _triple(parts):
    """The triple of a CUT, or None if it IS in two PARTs: by each PART, its HOUSE, and whether LO and HI are HAD."""
    seats = [(name, house) for name, house, is_low, is_high in parts if is_low and not is_high]
    others = [(name, house, is_low) for name, house, is_low, is_high in parts if is_high or not is_low]
    below = [(name, house) for name, house, is_low in others if is_low]
    above = [(name, house) for name, house, is_low in others if not is_low]
    if len(seats) > 1:
        return None
    return (seats[0] if seats else (), tuple(sorted(below)), tuple(sorted(above)))


def paths(frame, book, layout, script):
    """The ascending tuple of triples of a PATH, the FACTS of the first CASE and the first CUT that has it."""
    return paths_on(stage_with(frame, book, layout, [script]), script)


def paths_on(stage, script):
    """What paths tells, of a SCRIPT on a Stage."""
    runs = stage.runs(script)
    if any([deed is not None and deed[0] == "call" for run in runs for deed, _ in run.past]):
        raise BadQuestion("a PART is called by another name")
    editions = [_editions_of(run) for run in runs]
    if any([len(some) > MOST_EDITIONS for some in editions]):
        raise TooMany(MOST_EDITIONS)
    for run, some in zip(runs, editions):
        if any([in_two([run.scale.lot(low, high) for low, high, _ in parts.values()]) for parts in some]):
            raise BadQuestion("a CUT is in two PARTs")
    found = {}
    for run, some in zip(runs, editions):
        _put_paths(found, run.scale.lattice, some, stage.facts_of(run))
    return tuple([(path, *found[path]) for path in sorted(found)])


def _editions_of(run):
    """The PARTs of each EDITION of the CASE of a Run."""
    return [parts for deed, parts in run.past if deed is None or deed[0] not in NO_EDITION]


def _put_paths(found, lattice, editions, facts):
    """Puts the PATHs of all CUTs of a CASE that are not there yet into a dict, with the FACTS and the CUT."""
    for number, cut in enumerate(lattice.named):
        if lattice.every >> number & 1:
            path = tuple([_triple(_had_at(parts, number)) for parts in editions])
            if path not in found:
                found[path] = (facts, cut)


def _had_at(parts, number):
    """For each of some PARTs its name, its HOUSE, and whether a CUT HAS its bounds."""
    return [(name, house, bool(low >> number & 1), bool(high >> number & 1))
            for name, (low, high, house) in parts.items()]

"""STANDINGs: what counts of one row at one moment, and the EVENTs that lead from one to another."""

from namedcuts.errors import BadEvent, BadStanding
from namedcuts.kinds import is_tuple_of, is_whole
from namedcuts.moments import Moment, scene_of
from namedcuts.paths import is_site

MARKS = (1, 2)


def first_standings(manner, path):
    """The ascending tuple of the STANDINGs at first."""
    return tuple(sorted([moment.standing() for moment in first_moments(scene_of(manner, path))]))


def first_moments(scene):
    """The list of the Moments of a Scene at first: without a COPY, and with one if there is a SEAT."""
    hads = [False] if scene.seats[0] == () else [False, True]
    return [Moment(scene, had) for had in hads]


def events(manner, path, standing):
    """The ascending tuple of the EVENTs that can come, but those by which the STANDING stays as it is."""
    moment = _moment(scene_of(manner, path), standing)
    found = [(event, _behind(moment, event)) for event in moment.chances()]
    return tuple(sorted([event for event, told in found if told != standing]))


def behind(manner, path, standing, event):
    """The STANDING behind an EVENT, or the word with which the question ends by it."""
    moment = _moment(scene_of(manner, path), standing)
    if not moment.can_come(event):
        raise BadEvent(event)
    return _behind(moment, event)


def _behind(moment, event):
    new = moment.twin()
    new.do(event)
    return new.standing() if new.word is None else new.word


def _moment(scene, standing):
    """The Moment of what is a STANDING by its form; BadStanding of what is none."""
    if not is_standing(scene, standing):
        raise BadStanding(standing)
    return moment_of(scene, standing)


def moment_of(scene, standing):
    """A Moment that has a STANDING: the VERSION 1 is its LATEST, 0 an elder one."""
    moment = Moment(scene, False)
    moment.number = 1
    moment.fresh = 1
    moment.change, moment.act, moment.floor, copies, moment.shut, owns, *rest, question = standing
    moment.both, moment.taken, moment.latest = rest
    moment.copies = _versions(copies)
    moment.owns = {site: edition for site, edition in owns}
    if question != ():
        moment.edition, moment.past, seen, moment.nothing = question
        moment.seen = _versions(seen)
    return moment


def _versions(marked):
    return {site: mark - 1 for site, mark in marked}


def is_standing(scene, thing):
    """Whether anything is by its form a STANDING of a Scene."""
    if not is_tuple_of(thing, 10, 10):
        return False
    change, act, floor, copies, shut, owns, *truths, question = thing
    sites = _sites_of(scene)
    if not _is_time(scene, change, act, floor) or not all([isinstance(truth, bool) for truth in truths]):
        return False
    if not _are_marked(sites, copies) or not isinstance(shut, tuple) or not _ascend(sites, shut):
        return False
    return _are_owns(scene, owns) and _is_question(scene, sites, question)


def _sites_of(scene):
    """A dict with all SITEs of a PATH."""
    lists = [[seat, *below, *above] for seat, below, above in scene.path]
    return {site: True for some in lists for site in some if site != ()}


def _is_time(scene, change, act, floor):
    """Whether CHANGE, ACT and FLOOR are such."""
    if not is_whole(change) or not is_whole(act) or not is_whole(floor) or not 0 <= change <= scene.last:
        return False
    if not 0 <= act < (1 if change == scene.last else len(scene.acts)):
        return False
    return 0 <= floor <= change + (1 if act > scene.turn else 0)


def _ascend(sites, things):
    """Whether things are SITEs among some, each greater than the one ahead."""
    if not all([is_site(thing) and thing in sites for thing in things]):
        return False
    return all([one < other for one, other in zip(things, things[1:])])


def _are_pairs(sites, thing):
    """Whether anything is a tuple of pairs of SITEs that ascend and integers."""
    if not isinstance(thing, tuple) or not all([is_tuple_of(pair, 2, 2) and is_whole(pair[1]) for pair in thing]):
        return False
    return _ascend(sites, [site for site, _ in thing])


def _are_marked(sites, thing):
    return _are_pairs(sites, thing) and all([mark in MARKS for _, mark in thing])


def _are_owns(scene, thing):
    """Whether anything tells an EDITION of each SITE that is a SEAT."""
    if not _are_pairs(scene.owns, thing) or len(thing) != len(scene.owns):
        return False
    return all([0 <= edition <= scene.last for _, edition in thing])


def _is_question(scene, sites, thing):
    if not is_tuple_of(thing, 4, 4):
        return is_tuple_of(thing, 0, 0)
    edition, past, seen, nothing = thing
    if not is_whole(edition) or not -1 <= edition <= scene.last:
        return False
    return isinstance(past, bool) and isinstance(nothing, bool) and _are_marked(sites, seen)

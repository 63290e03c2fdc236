"""MANNERs on several PATHs: ACTS that can be left out or turned about, other words that do as well, writers' doors."""

from namedcuts.errors import BadPath, BadQuestion, TooMany
from namedcuts.kinds import is_tuple_of
from namedcuts.manners import AGAINS, DOORS, HOWS, LEADS, need_manner
from namedcuts.moments import Moment, scene_of
from namedcuts.paths import need_path
from namedcuts.safety import is_sure

MOST_PATHS = 16


def needless_acts(manner, paths):
    """The ascending tuple of the numbers of the NEEDLESS ACTS."""
    _need_sure(manner, paths)
    return tuple([number for number in range(len(manner[4])) if _is_needless(manner, number, paths)])


def _is_needless(manner, number, paths):
    return manner[4][number] != "point" and _is_sure_on(_without(manner, number), paths)


def _need_sure(manner, paths):
    """Refuses what is no MANNER, or no tuple of PATHs, and a MANNER that is not SURE on all of them."""
    need_manner(manner)
    if not is_tuple_of(paths, 1, MOST_PATHS):
        raise BadPath(())
    for number, path in enumerate(paths):
        _need_numbered(number, path)
    if not _is_sure_on(manner, paths):
        raise BadQuestion("the MANNER is not SURE on all PATHs")


def _need_numbered(number, path):
    """BadPath of what is no PATH, its place with a number ahead."""
    try:
        need_path(path)
    except BadPath as bad:
        raise BadPath((number, *bad.place)) from None


def _is_sure_on(manner, paths):
    """Whether a MANNER is SURE on all of some PATHs; TooMany only if it is not seen that it is not."""
    crowded = None
    for path in paths:
        try:
            if not is_sure(manner, path):
                return False
        except TooMany as many:
            crowded = many.most
    if crowded is not None:
        raise TooMany(crowded)
    return True


def _with_acts(manner, acts):
    return (*manner[:4], acts)


def _without(manner, number):
    """The MANNER without one of its ACTS."""
    return _with_acts(manner, manner[4][:number] + manner[4][number + 1:])


def lean_manner(manner, paths):
    """The LEAN form of a MANNER."""
    _need_sure(manner, paths)
    found = manner
    number = _first_needless(found, paths)
    while number is not None:
        found = _without(found, number)
        number = _first_needless(found, paths)
    return found


def _first_needless(manner, paths):
    """The number of the first NEEDLESS ACT, or None."""
    for number in range(len(manner[4])):
        if _is_needless(manner, number, paths):
            return number
    return None


def exchanged(manner, paths):
    """The ascending tuple of the numbers N such that the ACTS N and N + 1 are unlike and may be EXCHANGED."""
    _need_sure(manner, paths)
    acts = manner[4]
    return tuple([number for number, (one, other) in enumerate(zip(acts, acts[1:]))
                  if one != other and _is_sure_on(_turned(manner, number), paths)])


def _turned(manner, number):
    """The MANNER with two neighbouring ACTS turned about."""
    acts = manner[4]
    return _with_acts(manner, (*acts[:number], acts[number + 1], acts[number], *acts[number + 2:]))


def others(manner, paths):
    """The ascending tuple of the MANNERs with one of the four words otherwise that are SURE on all PATHs."""
    _need_sure(manner, paths)
    found = [(*manner[:number], word, *manner[number + 1:])
             for number, words in enumerate((DOORS, LEADS, HOWS, AGAINS)) for word in words if word != manner[number]]
    return tuple(sorted([one for one in found if _is_sure_on(one, paths)]))


def is_stuck(manner, path):
    """Whether a MANNER is STUCK on a PATH.

    Who writes or asks has no part in which SITEs take something, and by which EDITIONs they go: so the changes are
    made with nobody about."""
    scene = scene_of(manner, path)
    if scene.seats[-1] == ():
        return False
    moment = Moment(scene, False)
    while moment.change < scene.last:
        moment.do(("act",))
    return moment.do(("write", scene.last)) == ("refused",)

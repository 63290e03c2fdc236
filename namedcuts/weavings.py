"""WEAVINGs: EVENTs one behind the other, and what each of them tells."""

from namedcuts.errors import BadWeaving
from namedcuts.kinds import is_tuple_of
from namedcuts.moments import Moment, scene_of

MOST_EVENTS = 60


def run(manner, path, weaving):
    """The tuple of what each EVENT of a WEAVING tells."""
    told, _ = done(scene_of(manner, path), weaving)
    return tuple(told)


def word_of(manner, path, weaving):
    """The word with which the question of a WEAVING ends, None if it does not."""
    _, word = done(scene_of(manner, path), weaving)
    return word


def done(scene, weaving):
    """The list of what each EVENT tells, and the word with which the question ends; BadWeaving of what is none."""
    if not is_tuple_of(weaving, 2, 2) or not _is_begun(scene, weaving[0]) or not is_tuple_of(weaving[1], 0, MOST_EVENTS):
        raise BadWeaving(-1)
    moment = Moment(scene, weaving[0])
    told = []
    for number, event in enumerate(weaving[1]):
        if not moment.can_come(event):
            raise BadWeaving(number)
        told.append(moment.do(event))
    return told, moment.word


def _is_begun(scene, thing):
    """Whether anything can be HAD: a COPY lies at a SEAT."""
    return isinstance(thing, bool) and not (thing and scene.seats[0] == ())

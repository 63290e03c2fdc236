"""WEAVINGs: EVENTs one behind the other, and what each of them tells."""

from namedcuts.errors import BadWeaving
from namedcuts.kinds import is_tuple_of
from namedcuts.moments import Moment, scene_of

MOST_EVENTS = 60


def run(manner, path, weaving):
    """The tuple of what each EVENT of a WEAVING tells."""
    told, _ = done(scene_of(manner, path), weaving)
    return tuple(told)


def word_of(manner, path, weaving):
    """The word with which the question of a WEAVING ends, None if it does not."""
    _, word = done(scene_of(manner, path), weaving)
    return word


def done(scene, weaving):
    """The list of what each EVENT tells, and the word with which the question ends; BadWeaving of what is none."""
    if not _is_formed(scene, weaving):
        raise BadWeaving(-1)
    had, events = weaving
    moment = Moment(scene, had)
    told = []
    for number, event in enumerate(events):
        if not moment.can_come(event):
            raise BadWeaving(number)
        told.append(moment.do(event))
    return told, moment.word


def _is_formed(scene, thing):
    """Whether anything is a WEAVING, whatever its EVENTs are: a COPY at first can lie at a SEAT only."""
    if not is_tuple_of(thing, 2, 2) or not isinstance(thing[0], bool) or not is_tuple_of(thing[1], 0, MOST_EVENTS):
        return False
    return not thing[0] or scene.seats[0] != ()

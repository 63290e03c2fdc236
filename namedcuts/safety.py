"""Whether a MANNER is SURE: all STANDINGs that are come to are gone through, those behind the fewest EVENTs first."""

from namedcuts.cases import stage_with
from namedcuts.errors import BadPaper, BadWeaving, TooMany
from namedcuts.kinds import is_tuple_of, is_word
from namedcuts.manners import need_manner
from namedcuts.moments import scene_of
from namedcuts.paths import paths_on
from namedcuts.standings import first_moments, is_standing, moment_of
from namedcuts.weavings import done

MOST_STANDINGS = 20000


def is_sure(manner, path):
    """Whether a MANNER is SURE on a PATH."""
    word, _ = _paper_on(scene_of(manner, path))
    return word == "sure"


def sure_paper(manner, path):
    """A PAPER on a MANNER and a PATH."""
    return _paper_on(scene_of(manner, path))


def _paper_on(scene):
    """("sure", COVER) or ("weaving", WEAVING) of a Scene; TooMany of too many STANDINGs."""
    queue = [(moment.standing(), moment) for moment in first_moments(scene)]
    came = {standing: None for standing, _ in queue}
    at = 0
    while at < len(queue):
        standing, moment = queue[at]
        at += 1
        for event in moment.chances():
            if moment.is_idle(event):
                continue
            new = moment.twin()
            new.do(event)
            if new.word not in (None, "good"):
                return ("weaving", _weaving_to(came, standing, event))
            behind = None if new.word else new.standing()
            if behind is not None and behind not in came:
                came[behind] = (standing, event)
                queue.append((behind, new))
        if len(came) > MOST_STANDINGS:
            raise TooMany(MOST_STANDINGS)
    return ("sure", tuple(sorted(came)))


def _weaving_to(came, standing, event):
    """The WEAVING that ends with an EVENT in a STANDING, by what came ahead of each."""
    events = [event]
    while came[standing] is not None:
        standing, ahead = came[standing]
        events.append(ahead)
    # At first there is a COPY exactly if the LATEST is not nothing.
    return (standing[8], tuple(events[::-1]))


def check_sure(manner, path, paper):
    """The word of a PAPER on a MANNER and a PATH that holds; BadPaper of one that does not."""
    scene = scene_of(manner, path)
    if not is_tuple_of(paper, 2, 2):
        raise BadPaper("form")
    if is_word(paper[0], ("sure",)):
        _check_cover(scene, paper[1])
    elif is_word(paper[0], ("weaving",)):
        _check_weaving(scene, paper[1])
    else:
        raise BadPaper("form")
    return paper[0]


def _check_cover(scene, cover):
    if not isinstance(cover, tuple) or not all([is_standing(scene, standing) for standing in cover]):
        raise BadPaper("form")
    if not all([one < other for one, other in zip(cover, cover[1:])]):
        raise BadPaper("form")
    known = {standing: True for standing in cover}
    if not all([moment.standing() in known for moment in first_moments(scene)]):
        raise BadPaper("sure")
    if not all([_stays_in(known, moment_of(scene, standing)) for standing in cover]):
        raise BadPaper("sure")


def _stays_in(known, moment):
    """Whether no EVENT leads out of some STANDINGs, or ends a question otherwise than "good"."""
    for event in moment.chances():
        new = moment.twin()
        new.do(event)
        if new.word != "good" and (new.word is not None or new.standing() not in known):
            return False
    return True


def _check_weaving(scene, weaving):
    try:
        _, word = done(scene, weaving)
    except BadWeaving:
        raise BadPaper("form") from None
    if word in (None, "good"):
        raise BadPaper("weaving")


def script_unsure(frame, book, layout, script, manner):
    """None if a MANNER is SURE on a script, else (FACTS, CUT, WEAVING) of the first PATH on which it is not."""
    stage = stage_with(frame, book, layout, [script])
    need_manner(manner)
    for path, facts, cut in paths_on(stage, script):
        word, shown = _paper_on(scene_of(manner, path))
        if word == "weaving":
            return (facts, cut, shown)
    return None

"""A SHELF: scripts, ROLLINGs, TREEs and ASKs by names, that can be replaced by what AGREES."""

from namedcuts.asks import asks_apart, need_ask
from namedcuts.cases import parted
from namedcuts.cuts import cuts
from namedcuts.errors import BadName, BadSort, BadThing, CutError, Leans, Missing, Parts
from namedcuts.even import unlike_tick
from namedcuts.frames import with_facts
from namedcuts.kinds import LETTERS, is_tuple_of, is_word
from namedcuts.live import need_whole
from namedcuts.maps import map_of
from namedcuts.rolling import need_rolling
from namedcuts.scripts import need_script
from namedcuts.trees import need_tree, tree_map
from namedcuts.trials import Trial

MOST_LETTERS = 8
SORTS = ("script", "rolling", "tree", "ask")


class Board:
    """What a SHELF holds: its FRAME, and for each name the tuple of the things that stood there since one was put, the
    one that stands there now last. past are the pairs of a name and what it had ahead of what was done, None if it was
    not there; of None and the FRAME if this was changed."""

    def __init__(self, frame):
        self.frame = frame
        self.things = {}
        self.past = []

    def twin(self):
        """A Board that goes on from here by itself."""
        twin = Board(self.frame)
        twin.things = dict(self.things)
        twin.past = list(self.past)
        return twin

    def put(self, name, things):
        """Gives a name these things; none of None."""
        self.past.append((name, self.things.get(name)))
        self._set_things(name, things)

    def _set_things(self, name, things):
        if things is None:
            del self.things[name]
        else:
            self.things[name] = things

    def change_frame(self, frame):
        """Takes another FRAME."""
        self.past.append((None, self.frame))
        self.frame = frame

    def undo(self):
        """Takes back what was done last. Whether there was something."""
        if not self.past:
            return False
        name, old = self.past.pop()
        if name is None:
            self.frame = old
        else:
            self._set_things(name, old)
        return True


class Shelf:
    """A SHELF of a FRAME and a LAYOUT. now is its Board."""

    def __init__(self, frame, layout):
        map_of(frame, layout)
        self.layout = layout
        self.now = Board(frame)

    @property
    def base(self):
        """The FRAME."""
        return self.now.frame

    @property
    def ground(self):
        """The LAYOUT."""
        return self.layout

    def _has(self, thing):
        return _is_label(thing) and thing in self.now.things

    def _see_there(self, name):
        """Missing of what is no name that is there."""
        if not self._has(name):
            raise Missing(name)

    def __getitem__(self, at):
        if not self._has(at):
            raise Missing(at)
        return self.now.things[at][-1]

    def __setitem__(self, at, worth):
        if not _is_label(at):
            raise BadName(at)
        _see_thing(self.now.frame, worth)
        self.now.put(at, (worth,))

    def __contains__(self, at):
        return self._has(at)

    def __len__(self):
        return len(self.now.things)

    def __iter__(self):
        raise TypeError("a shelf is not gone through")

    def __eq__(self, other):
        if not isinstance(other, Shelf):
            return False
        if self.now.frame != other.now.frame or self.layout != other.layout:
            return False
        return _standing(self.now.things) == _standing(other.now.things)

    def labels(self):
        """The ascending tuple of the names."""
        return tuple(sorted(self.now.things))

    def forget(self, name):
        """Takes away what a name has."""
        self._see_there(name)
        self.now.put(name, None)

    def replace(self, name, thing):
        """Puts a thing in the place of one with which it AGREES."""
        self._see_there(name)
        frame = self.now.frame
        _see_thing(frame, thing)
        things = self.now.things[name]
        if thing[0] != things[-1][0]:
            raise BadSort(thing[0])
        apart = _apart(frame, self.layout, things[-1], thing)
        if apart is not None:
            raise Parts(apart)
        self.now.put(name, (*things, thing))

    def tell(self, fact):
        """Puts a FACT behind those of the FRAME."""
        self.now.change_frame(with_facts(self.now.frame, (fact,)))

    def take_back(self, number):
        """Takes a FACT out, if all that was replaced AGREES without it."""
        names, facts = self.now.frame
        need_whole(number, 0, len(facts) - 1)
        frame = (names, facts[:number] + facts[number + 1:])
        map_of(frame, self.layout)
        for name in self.labels():
            *elder, last = self.now.things[name]
            for thing in elder:
                if _apart(frame, self.layout, thing, last) is not None:
                    raise Leans(name)
        self.now.change_frame(frame)

    def undo(self):
        """Takes back what was done last. Whether there was something."""
        return self.now.undo()

    def trial(self):
        """For a with statement, behind which all is as it was ahead of it."""
        return Trial(self)


def _is_label(thing):
    """Whether anything can be the name of a thing."""
    if not isinstance(thing, str) or not 1 <= len(thing) <= MOST_LETTERS:
        return False
    return all([letter in LETTERS for letter in thing])


def _standing(things):
    """A dict from the names to what stands there now."""
    return {name: some[-1] for name, some in things.items()}


def _see_thing(frame, thing):
    """BadThing of what is no thing of a SHELF."""
    if not is_tuple_of(thing, 2, 2) or not is_word(thing[0], SORTS):
        raise BadThing(thing)
    try:
        _see_of_sort(frame, thing[0], thing[1])
    except CutError:
        raise BadThing(thing) from None


def _see_of_sort(frame, sort, thing):
    """Refuses what is none of a SORT."""
    if sort == "script":
        need_script(frame, (), thing)
    elif sort == "rolling":
        need_rolling(thing)
    elif sort == "tree":
        need_tree(frame, thing)
    else:
        need_ask(frame, thing)


def _apart(frame, layout, thing, other):
    """Where two things of one SORT part, or None if they AGREE."""
    sort, one = thing
    _, another = other
    if sort == "script":
        return parted(frame, (), layout, one, another)
    if sort == "rolling":
        return unlike_tick(one, another)
    if sort == "ask":
        return asks_apart(frame, one, another)
    unlike = [cut for cut, leaf, new in zip(cuts(frame), tree_map(frame, one), tree_map(frame, another)) if leaf != new]
    return unlike[0] if unlike else None

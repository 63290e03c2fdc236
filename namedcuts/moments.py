"""One row, or its lack, at one moment of its table's moving, and what each EVENT makes of it."""

from namedcuts.kinds import is_tuple_of, is_whole
from namedcuts.manners import need_manner
from namedcuts.paths import is_site, need_path


class Scene:
    """A MANNER on a PATH: what does not change from one moment to another.

    owns tells the EDITION by which each SITE that is a SEAT goes at first, in the order of the SITEs."""

    def __init__(self, manner, path):
        self.door, self.lead, self.how, self.again, self.acts = manner
        self.path = path
        self.seats = [seat for seat, _, _ in path]
        self.last = len(path) - 1
        self.turn = self.acts.index("point")
        self.owns = {site: self._first_with(site) for site in sorted(set(self.seats)) if site != ()}

    def _first_with(self, site):
        """The first EDITION in whose triple a SITE stands."""
        return [site == seat or site in below or site in above for seat, below, above in self.path].index(True)


def scene_of(manner, path):
    """The Scene of a MANNER and a PATH; BadManner, then BadPath of what is none."""
    return Scene(need_manner(manner), need_path(path))


class Moment:
    """A moment in a Scene, at first that at which nothing has been done.

    copies and seen are dicts from SITEs to VERSIONs; they are never changed, so that Moments may share them. number is
    that of the last VERSION; those from fresh on are the LATEST, or were so behind the question's beginning.
    latest tells whether there is no question yet, and the LATEST is not nothing. edition is None as long as there is no
    question; word is that with which it ended."""

    def __init__(self, scene, had):
        self.scene = scene
        self.change = 0
        self.act = 0
        self.floor = 0
        self.copies = {scene.seats[0]: 0} if had else {}
        self.shut = ()
        self.owns = scene.owns
        self.both = False
        self.taken = False
        self.latest = had
        self.edition = None
        self.past = False
        self.seen = {}
        self.nothing = False
        self.number = 0
        self.fresh = 0
        self.word = None

    def twin(self):
        """A Moment that goes on from here by itself."""
        twin = Moment(self.scene, False)
        twin.change = self.change
        twin.act = self.act
        twin.floor = self.floor
        twin.copies = self.copies
        twin.shut = self.shut
        twin.owns = self.owns
        twin.both = self.both
        twin.taken = self.taken
        twin.latest = self.latest
        twin.edition = self.edition
        twin.past = self.past
        twin.seen = self.seen
        twin.nothing = self.nothing
        twin.number = self.number
        twin.fresh = self.fresh
        return twin

    def present(self):
        """The EDITION that stands in the map."""
        return self.change + 1 if self.act > self.scene.turn else self.change

    def standing(self):
        """The STANDING."""
        question = ()
        if self.edition is not None:
            question = (self.edition, self.past, self._marked(self.seen), self.nothing)
        return (self.change, self.act, self.floor, self._marked(self.copies), self.shut, tuple(self.owns.items()),
                self.both, self.taken, self.latest, question)

    def _marked(self, copies):
        """The ascending tuple of pairs of a SITE and the MARK of its COPY."""
        return tuple(sorted([(site, 2 if version >= self.fresh else 1) for site, version in copies.items()]))

    def chances(self):
        """The list of all EVENTs that can come."""
        if self.word is not None:
            return []
        editions = list(range(self.floor, self.present() + 1))
        found = [(word, edition) for word in ("write", "erase") for edition in editions]
        if self.change < self.scene.last and not self._waits():
            found.append(("act",))
        if self.edition is not None:
            return found + self._of_question()
        return found + ([("ask",)] if self.scene.how == "next" else [("ask", edition) for edition in editions])

    def _waits(self):
        """Whether the next ACT is a "drain" that waits for the question."""
        if self.scene.acts[self.act] != "drain" or self.edition is None:
            return False
        is_over = self.scene.how == "next" and self.past
        return 0 <= self.edition < self.present() and not is_over

    def _of_question(self):
        """The list of the EVENTs of a question that has begun."""
        scene = self.scene
        if self.edition < 0:
            return [("look",)] if scene.how == "next" else []
        seat, below, above = scene.path[self.edition]
        if self.past:
            found = [("end",)]
        else:
            found = [("pass",)] if seat == () else [("read", seat)]
        if scene.how == "whole":
            found += [("read", site) for site in (above if self.past else below) if site not in self.seen]
        return found

    def can_come(self, thing):
        """Whether anything is an EVENT that can come."""
        if not is_tuple_of(thing, 1, 2) or not isinstance(thing[0], str):
            return False
        if len(thing) == 2 and not is_whole(thing[1]) and not is_site(thing[1]):
            return False
        return thing in self.chances()

    def is_idle(self, event):
        """Whether an EVENT that can come plainly leaves the STANDING as it is: a SITE without a COPY is passed over."""
        if event[0] != "read" or event[1] in self.copies:
            return False
        return event[1] != self.scene.seats[self.edition]

    def do(self, event):
        """Does an EVENT that can come. What it tells."""
        word = event[0]
        if word == "act":
            return self._act()
        if word in ("write", "erase"):
            return self._come(event[1], word == "erase")
        if word == "ask":
            return self._ask(event[1] if len(event) > 1 else -1)
        if word == "look":
            self.edition = self.present()
            return self.scene.seats[self.edition]
        if word == "read":
            return self._read(event[1])
        if word == "pass":
            self.past = True
            return "passed"
        return self._end()

    def _act(self):
        scene = self.scene
        word = scene.acts[self.act]
        source, target = scene.seats[self.change:self.change + 2]
        if word == "drain":
            self.floor = self.present()
        elif source != target:
            self._move(word, source, target)
        self.act += 1
        if self.act == len(scene.acts):
            self.change += 1
            self.act = 0
            self.both = False
            self.taken = False
        return word

    def _move(self, word, source, target):
        """What an ACT does with two unlike SEATs."""
        sites = [site for site in (source, target) if site != ()]
        if word == "seal":
            self._shut_up([source])
        elif word == "hold":
            self._shut_up([target])
        elif word == "free":
            self.shut = tuple([site for site in self.shut if site not in sites])
        elif word == "tell":
            self.owns = {**self.owns, **{site: self.change + 1 for site in sites}}
        elif word == "drop":
            self._put(source, None)
        elif len(sites) < 2:
            if word == "point":
                self._renew(target)
        elif word == "both":
            self.both = True
        elif word == "copy" or (word == "catch" and self.taken):
            if word == "catch" or source in self.copies:
                self._put(target, self.copies.get(source))
            self.taken = False

    def _shut_up(self, sites):
        self.shut = tuple(sorted(set([*self.shut, *[site for site in sites if site != ()]])))

    def _renew(self, target):
        """The LATEST is nothing from now on, and what is put on has no rows."""
        self._forget()
        if self.edition is None:
            self.fresh = self.number + 1
        self._put(target, None)

    def _forget(self):
        """The LATEST is nothing from now on."""
        self.latest = False
        self.nothing = self.edition is not None

    def _put(self, site, version):
        """Gives a SITE a COPY of a VERSION, or none."""
        copies = {other: self.copies[other] for other in self.copies if other != site}
        if version is not None:
            copies[site] = version
        self.copies = copies

    def _come(self, edition, is_erasing):
        """What becomes of a writer that goes by an EDITION."""
        site = self.scene.seats[edition]
        if not self._takes(site):
            return ("refused",)
        if self._lets_in(site):
            self._take(site, is_erasing)
            return ("taken", site)
        there = self.scene.seats[self.present()]
        if self.scene.lead == "off" or not self._takes(there) or not self._lets_in(there):
            return ("refused",)
        self._take(there, is_erasing)
        return ("led", there)

    def _takes(self, seat):
        return seat != () and seat not in self.shut

    def _lets_in(self, site):
        if self.scene.door == "own":
            return self._is_own(site)
        return self.scene.door == "any" or site == self.scene.seats[self.present()]

    def _is_own(self, site):
        """Whether a SITE is the SEAT of its OWN EDITION."""
        return self.scene.seats[self.owns[site]] == site

    def _take(self, site, is_erasing):
        self.number += 1
        if self.edition is None:
            self.fresh = self.number
            self.latest = True
        if is_erasing:
            self._forget()
        version = None if is_erasing else self.number
        self._put(site, version)
        if self.change == self.scene.last:
            return
        source, target = self.scene.seats[self.change:self.change + 2]
        if site == source and source != target:
            self.taken = True
            if self.both and target != ():
                self._put(target, version)

    def _ask(self, edition):
        self.nothing = not self.latest
        self.latest = False
        self._begin(edition)
        return "begun"

    def _begin(self, edition):
        """The question begins, or begins anew."""
        self.edition = edition
        self.past = False
        self.seen = {}

    def _begin_anew(self):
        self._begin(-1 if self.scene.how == "next" else self.present())

    def _read(self, site):
        if site == self.scene.seats[self.edition]:
            if self.scene.again == "own" and not self._is_own(site):
                self._begin_anew()
                return "back"
            self.past = True
        if site not in self.copies:
            return -1
        self.seen = {**self.seen, site: self.copies[site]}
        return self.copies[site]

    def _end(self):
        if self.scene.again == "edition" and self.edition != self.present():
            self._begin_anew()
            return "anew"
        self.word = self._ending()
        return self.word

    def _ending(self):
        if len(self.seen) > 1:
            return "twice"
        if any([version < self.fresh for version in self.seen.values()]):
            return "elder"
        return "good" if self.seen or self.nothing else "missed"

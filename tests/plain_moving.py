"""One row while its table is moved, told by the words of the document, with all versions by number; manners and paths
to try. Made without the program."""

from random import Random

A, B, C, D, E = ("a", "x"), ("b", "x"), ("c", "y"), ("d", "y"), ("a", "z")
SITES = (A, B, C, D, E)
WORDS = ("seal", "hold", "free", "copy", "catch", "both", "tell", "point", "drain", "drop")


class No(Exception):
    """This cannot come."""


class Tale:
    """What has happened so far; known are the versions that were the latest since the question began."""

    def __init__(self, manner, path, had):
        self.door, self.lead, self.how, self.again, self.acts = manner
        self.path = path
        self.copies = {path[0][0]: 0} if had else {}
        self.latest = 0 if had else None
        self.last = 0
        self.present = self.floor = self.change = self.act = 0
        self.own = {}
        for number, (seat, below, above) in enumerate(path):
            for site in (seat, *below, *above):
                if site:
                    self.own.setdefault(site, number)
        self.shut = set()
        self.fresh_change()
        self.edition = self.word = None
        self.begun = False

    def fresh_change(self):
        self.both = False
        self.since_copy = []

    def seat(self, edition):
        return self.path[edition][0]

    def two(self):
        return self.seat(self.change), self.seat(self.change + 1)

    def at_rest(self):
        return self.change == len(self.path) - 1

    def want(self, holds):
        if not holds:
            raise No

    def do(self, event):
        self.want(isinstance(event, tuple) and event and self.word is None)
        self.want(event[0] in ("act", "write", "erase", "ask", "look", "read", "pass", "end"))
        return getattr(self, "do_" + event[0])(*event[1:])

    def set_latest(self, version):
        self.latest = version
        if self.begun:
            self.known.append(version)

    def do_act(self):
        self.want(not self.at_rest())
        word = self.acts[self.act]
        if word == "drain":
            goes_on = self.begun and self.edition is not None and self.edition < self.present
            self.want(not goes_on or (self.how == "next" and self.past))
            self.floor = self.present
        elif word == "point":
            self.present = self.change + 1
            if self.two()[0] != self.two()[1] and () in self.two():
                self.set_latest(None)
                self.copies.pop(self.two()[1], None)
        elif self.two()[0] != self.two()[1]:
            getattr(self, "act_" + word)(*self.two())
        self.act += 1
        if self.act == len(self.acts):
            self.act = 0
            self.change += 1
            self.fresh_change()
        return word

    def act_seal(self, source, target):
        self.shut |= {source} - {()}

    def act_hold(self, source, target):
        self.shut |= {target} - {()}

    def act_free(self, source, target):
        self.shut -= {source, target}

    def act_copy(self, source, target):
        if source and target:
            self.since_copy = []
            if source in self.copies:
                self.copies[target] = self.copies[source]

    def act_catch(self, source, target):
        if source and target and self.since_copy:
            self.since_copy = []
            self.copies.pop(target, None)
            if source in self.copies:
                self.copies[target] = self.copies[source]

    def act_both(self, source, target):
        self.both = bool(source and target)

    def act_tell(self, source, target):
        for site in (source, target):
            if site:
                self.own[site] = self.change + 1

    def act_drop(self, source, target):
        if source:
            self.copies.pop(source, None)

    def do_write(self, edition):
        return self.comes(edition, True)

    def do_erase(self, edition):
        return self.comes(edition, False)

    def is_edition(self, edition):
        return isinstance(edition, int) and not isinstance(edition, bool) and self.floor <= edition <= self.present

    def comes(self, edition, keeps):
        self.want(self.is_edition(edition))
        site = self.seat(edition)
        if site == () or site in self.shut:
            return ("refused",)
        if self.is_let_in(site):
            self.takes(site, keeps)
            return ("taken", site)
        target = self.seat(self.present)
        if self.lead == "on" and target and target not in self.shut and self.is_let_in(target):
            self.takes(target, keeps)
            return ("led", target)
        return ("refused",)

    def is_let_in(self, site):
        if self.door == "own":
            return self.seat(self.own[site]) == site
        return True if self.door == "any" else self.seat(self.present) == site

    def takes(self, site, keeps):
        self.last += 1
        self.set_latest(self.last if keeps else None)
        sites = [site]
        if not self.at_rest() and site == self.two()[0] != self.two()[1]:
            self.since_copy.append(self.last)
            if self.both:
                sites.append(self.two()[1])
        for one in sites:
            self.copies.pop(one, None)
            if keeps:
                self.copies[one] = self.last

    def do_ask(self, *edition):
        self.want(not self.begun)
        if self.how == "next":
            self.want(edition == ())
            edition = (None,)
        self.want(len(edition) == 1 and (self.how == "next" or self.is_edition(edition[0])))
        self.begun = True
        self.known = [self.latest]
        self.begin(edition[0])
        return "begun"

    def begin(self, edition):
        self.edition = edition
        self.past = False
        self.seen = []

    def begin_anew(self):
        self.begin(None if self.how == "next" else self.present)

    def do_look(self):
        self.want(self.how == "next" and self.begun and self.edition is None)
        self.edition = self.present
        return self.seat(self.present)

    def do_read(self, site):
        self.want(self.begun and self.edition is not None)
        seat, below, above = self.path[self.edition]
        if site == seat != ():
            self.want(not self.past)
            if self.again == "own" and self.seat(self.own[site]) != site:
                self.begin_anew()
                return "back"
            self.past = True
        else:
            self.want(self.how == "whole" and site in (above if self.past else below))
            self.want(site not in [one for one, _ in self.seen])
        if site in self.copies:
            self.seen.append((site, self.copies[site]))
        return self.copies.get(site, -1)

    def do_pass(self):
        self.want(self.begun and self.edition is not None and not self.past and self.seat(self.edition) == ())
        self.past = True
        return "passed"

    def do_end(self):
        self.want(self.begun and self.edition is not None and self.past)
        if self.again == "edition" and self.edition != self.present:
            self.begin_anew()
            return "anew"
        self.word = self.ending()
        return self.word

    def ending(self):
        if len(self.seen) >= 2:
            return "twice"
        if self.seen:
            return "good" if self.seen[0][1] in self.known else "elder"
        return "good" if None in self.known else "missed"

    def marks(self, copies):
        known = self.known if self.begun else [self.latest]
        return tuple(sorted((site, 2 if version in known else 1) for site, version in copies))

    def standing(self):
        source, target = ((), ()) if self.at_rest() else self.two()
        seats = sorted({seat for seat, _, _ in self.path} - {()})
        question = ()
        if self.begun:
            question = (-1 if self.edition is None else self.edition, self.past, self.marks(self.seen), None in self.known)
        return (self.change, self.act, self.floor, self.marks(self.copies.items()), tuple(sorted(self.shut)),
                tuple((site, self.own[site]) for site in seats), self.both,
                bool(self.since_copy) and source != target, self.latest is not None and not self.begun, question)

    def every_event(self):
        """All that could be an event, whether it can come or not."""
        sites = sorted({site for triple in self.path for site in (triple[0], *triple[1], *triple[2])} - {()})
        return ([("act",), ("ask",), ("look",), ("pass",), ("end",)] + [("read", site) for site in sites]
                + [(word, edition) for word in ("write", "erase", "ask") for edition in range(-1, len(self.path) + 1)])


def told_plainly(manner, path, weaving):
    """What each event tells, and the word; the number of the first event that cannot come, and None."""
    tale = Tale(manner, path, weaving[0])
    told = []
    for number, event in enumerate(weaving[1]):
        try:
            told.append(tale.do(event))
        except No:
            return number, None
    return tuple(told), tale.word


def can_come(manner, path, had, events):
    """The events that can come behind some, and the tale behind each."""
    found = {}
    for event in Tale(manner, path, had).every_event():
        tale = Tale(manner, path, had)
        for one in events:
            tale.do(one)
        try:
            tale.do(event)
        except No:
            continue
        found[event] = tale
    return found


def mixed_manner(chance, words=WORDS, most=7):
    acts = [word for word in chance.sample(words * 2, chance.randint(1, most)) if word != "point"]
    acts.insert(chance.randint(0, len(acts)), "point")
    return (chance.choice(("any", "own", "now")), chance.choice(("on", "off")),
            chance.choice(("list", "whole", "next")), chance.choice(("never", "own", "edition")), tuple(acts))


def mixed_path(chance, most=4):
    """A path with few sites, so that they come again."""
    path = []
    for _ in range(chance.randint(1, most)):
        sites = chance.sample(SITES[:4], chance.randint(1, 3))
        seat = sites.pop() if chance.random() < 0.8 else ()
        below = [site for site in sites if chance.random() < 0.5]
        path.append((seat, tuple(sorted(below)), tuple(sorted(site for site in sites if site not in below))))
    return tuple(path)


def mixed_weaving(chance, manner, path, most):
    """A weaving that goes on at random, as a rule to the end of the question, all of it can come."""
    had = path[0][0] != () and chance.random() < 0.6
    events = []
    tale = Tale(manner, path, had)
    while len(events) < most and tale.word is None:
        events.append(chance.choice([event for event in tale.every_event() if chance_of(tale, event)]))
        tale.do(events[-1])
    return had, tuple(events)


def chance_of(tale, event):
    """Whether an event can come: tried on a tale of its own."""
    try:
        twin_of(tale).do(event)
    except No:
        return False
    return True


def twin_of(tale):
    twin = Tale((tale.door, tale.lead, tale.how, tale.again, tale.acts), tale.path, False)
    for name, thing in vars(tale).items():
        setattr(twin, name, thing.copy() if isinstance(thing, (dict, list, set)) else thing)
    return twin


def weavings_to_try(many, seed, most=25):
    chance = Random(seed)
    for _ in range(many):
        manner, path = mixed_manner(chance), mixed_path(chance)
        yield manner, path, mixed_weaving(chance, manner, path, most)

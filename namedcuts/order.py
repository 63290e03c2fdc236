"""The order that FACTS put NAMEs in: WAYs, and which NAMEs go with which.

Sets of NAMEs are integers here: the bit P is set if the NAME with the place P is in."""

from namedcuts.kinds import are_whole


class Order:
    """The WAYs of some NAMEs with FACTS of any number, also such that have no WORLD.

    above, past, below have for each place the set of the NAMEs to which a WAY leads from there, to which
    a STRICT WAY does, from which a WAY leads there; steps tells of each pair with a FACT whether it is STRICT."""

    def __init__(self, names, facts):
        self.names = names
        self.facts = facts
        self.places = {name: place for place, name in enumerate(names)}
        self.steps = self._all_steps()
        self.above = self._all_above()
        self.past = self._all_past()
        self.below = self._all_below()

    def _all_steps(self):
        steps = {}
        for one, word, other in self.facts:
            steps[one, other] = word == "ahead" or steps.get((one, other), False)
        return steps

    def _all_above(self):
        places = list(range(len(self.names)))
        above = [1 << place for place in places]
        for one, other in self.steps:
            above[self.places[one]] |= 1 << self.places[other]
        for between in places:
            for place in places:
                if above[place] >> between & 1:
                    above[place] |= above[between]
        return above

    def _all_past(self):
        past = [0 for _ in self.names]
        for (one, other), strict in self.steps.items():
            for place in range(len(past)):
                if strict and self.above[place] >> self.places[one] & 1:
                    past[place] |= self.above[self.places[other]]
        return past

    def _all_below(self):
        places = list(range(len(self.names)))
        return [sum([1 << one for one in places if self.above[one] >> place & 1]) for place in places]

    def leads(self, one, other):
        """Whether a WAY leads from one NAME to the other."""
        return bool(self.above[self.places[one]] >> self.places[other] & 1)

    def leads_past(self, one, other):
        """Whether a STRICT WAY leads from one NAME to the other."""
        return bool(self.past[self.places[one]] >> self.places[other] & 1)

    def shortest(self, one, other, strict):
        """A WAY from one NAME to the other with as few NAMEs as any, a STRICT one if strict is True, or None.

        A NAME may be met twice, ahead of the first FACT "ahead" and behind it: so a ring is found, too."""
        came = {(one, False): None}
        queue = [(one, False)]
        done = 0
        while done < len(queue) and (other, strict) not in came:
            name, past = queue[done]
            done += 1
            for begin, end in self.steps:
                spot = (end, strict and (past or self.steps[begin, end]))
                if begin == name and spot not in came:
                    came[spot] = (name, past)
                    queue.append(spot)
        if (other, strict) not in came:
            return None
        return _way_back(came, (other, strict))

    def is_way(self, way):
        """Whether a tuple of NAMEs is a WAY."""
        return len(way) > 0 and all([step in self.steps for step in zip(way, way[1:])])

    def is_ring(self, way):
        """Whether a tuple of NAMEs is a STRICT WAY that ends where it begins."""
        if not self.is_way(way) or way[0] != way[-1]:
            return False
        return any([self.steps[step] for step in zip(way, way[1:])])

    def ringed(self):
        """The NAMEs from which a STRICT WAY leads back to them: without any there are WORLDs."""
        return [name for name in self.names if self.leads_past(name, name)]

    def levels(self):
        """For each place how many NAMEs lead there by STRICT WAYs: a WORLD, if no NAME is ringed.

        What leads so to A leads so to B too, if there is a FACT from A to B, and A itself does if it is "ahead"."""
        return [sum([past >> place & 1 for past in self.past]) for place in range(len(self.names))]

    def least_gaps(self):
        """A dict from the pairs of NAMEs with a WAY from the one to the other to the least by which this is greater.

        Values are integers: so it is how many FACTS "ahead" a WAY has between them at most."""
        gaps = {(name, name): 0 for name in self.names}
        for step, strict in self.steps.items():
            gaps[step] = 1 if strict else 0
        for between in self.names:
            for one in self.names:
                for other in self.names:
                    if (one, between) in gaps and (between, other) in gaps:
                        over = gaps[one, between] + gaps[between, other]
                        gaps[one, other] = max(over, gaps.get((one, other), over))
        return gaps

    def fits(self, thing):
        """Whether anything is a WORLD."""
        if not are_whole(thing) or len(thing) != len(self.names):
            return False
        for (one, other), strict in self.steps.items():
            low, high = thing[self.places[one]], thing[self.places[other]]
            if low > high or (strict and low == high):
                return False
        return True

    def has_same_worlds(self, other):
        """Whether another Order of the same NAMEs has the same WORLDs."""
        return self.above == other.above and self.past == other.past


def _way_back(came, spot):
    """The WAY to a spot, by the spot that came ahead of each."""
    way = []
    while spot is not None:
        way.append(spot[0])
        spot = came[spot]
    return tuple(way[::-1])

"""A SCRIPT that is done on a LAYOUT, as far as its questions can be answered."""

from namedcuts.deeds import changed, is_able, questions
from namedcuts.steps import top_scope
from namedcuts.terms import EDGES


class Run:
    """A SCRIPT on its way, by the worths of a scale.

    PARTs are a dict from names to tuples of two worths and a HOUSE, never changed, so that Runs may share them.
    waiting are the Steps that are not done yet, the next one last; past are pairs of each DEED that was done and the
    PARTs behind it, the first one of None and those at first; word is None on the way, then that of the OUTCOME."""

    def __init__(self, scale, waiting, past):
        self.scale = scale
        self.waiting = waiting
        self.past = past
        self.parts = past[-1][1]
        self.word = None

    def in_scale(self, scale):
        """A Run that goes on from here by itself, by another scale."""
        return Run(scale, list(self.waiting), list(self.past))

    def go_on(self):
        """Does what can be done. The pair of worths of a question that is not answered, or None at the end."""
        while self.waiting and self.word is None:
            step = self.waiting[-1]
            worths = self._worths(step)
            if any([worth is None for worth in worths]) or not is_able(self.parts, step.deed):
                self.word = "stopped"
            else:
                open_pair, answer = self._answer(questions(self.parts, step.deed, worths))
                if open_pair is not None:
                    return open_pair
                self._follow(step, worths, answer)
        if self.word is None:
            self.word = "done"
        return None

    def _answer(self, asked):
        """A pair: the first question that is not answered, or None; whether the first worths are not greater."""
        for one, other in asked:
            answer = self.scale.is_upto(one, other)
            if answer is None:
                return (one, other), None
            if not answer:
                return None, False
        return None, True

    def _follow(self, step, worths, answer):
        """Does a Step that can be done if the answer is True."""
        if step.branches:
            self.waiting.pop()
            self.waiting.extend(step.branches[0 if answer else 1][::-1])
        elif answer:
            self.waiting.pop()
            self.parts = changed(self.scale, self.parts, step.deed, worths)
            self.past.append((step.deed, self.parts))
        else:
            self.word = "stopped"

    def _worths(self, step):
        """The worths of the TERMs of a Step, None of those with a bound of no PART."""
        known = self._known(step.scope)
        return [worth_of(self.scale, self.parts, step.scope, known, term) for term in step.terms]

    def _known(self, scope):
        """The worths of the TERMs that were given, as they are now."""
        if scope.outer is None:
            return {}
        known = self._known(scope.outer)
        return {word: worth_of(self.scale, self.parts, scope.outer, known, term) for word, term in scope.bounds.items()}

    def outcome(self):
        """The OUTCOME of a Run that ended."""
        return self.word, len(self.past) - 1, self.layout_of(self.parts)

    def layout_of(self, parts):
        """The LAYOUT that is told of PARTs."""
        told = []
        for name in sorted(parts):
            low, high, house = parts[name]
            told.append((name, self.scale.written(low), self.scale.written(high), house))
        return tuple(told)


def worth_of(scale, parts, scope, known, term):
    """The worth of a script TERM in a Scope with known worths of what was given; None if a PART is not there."""
    if isinstance(term, str):
        return known[term] if term in known else scale.worth(term)
    if term[0] in EDGES:
        part = parts.get(scope.name_of(term[1]))
        return None if part is None else part[EDGES.index(term[0])]
    many = [worth_of(scale, parts, scope, known, inner) for inner in term[1:]]
    if any([worth is None for worth in many]):
        return None
    return scale.least(many) if term[0] == "least" else scale.greatest(many)


def begun(scale, layout, steps):
    """The Run of Steps on a LAYOUT, at its first one."""
    scope = top_scope()
    parts = {}
    for name, low, high, house in layout:
        parts[name] = (worth_of(scale, {}, scope, {}, low), worth_of(scale, {}, scope, {}, high), house)
    return Run(scale, steps[::-1], [(None, parts)])

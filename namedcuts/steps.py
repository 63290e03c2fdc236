"""SCRIPTs with the BODYs of their PIECEs put in: what is to be done, one thing behind the other."""

from namedcuts.pieces import FORMS
from namedcuts.terms import EDGES


class Scope:
    """What stands in a BODY for the words of its PARAMS.

    bounds are the TERMs that were given, as they stand where the PIECE is done, in the Scope outer; terms are these,
    all put in; names are the names of PARTs that were given. outer is None of the SCRIPT itself."""

    def __init__(self, outer, params, given):
        self.outer = outer
        self.bounds = {word: thing for (sort, word), thing in zip(params, given) if sort == "bound"}
        self.terms = {word: outer.put_in(thing) for word, thing in self.bounds.items()}
        self.names = {word: outer.name_of(thing) for (sort, word), thing in zip(params, given) if sort == "part"}

    def name_of(self, part):
        """The name of a PART, put in."""
        return self.names.get(part, part)

    def put_in(self, term):
        """A script TERM, put in."""
        if isinstance(term, str):
            return self.terms.get(term, term)
        if term[0] in EDGES:
            return (term[0], self.name_of(term[1]))
        return (term[0], *[self.put_in(inner) for inner in term[1:]])


class Step:
    """A DEED but "do": itself, put in; its TERMs as they stand in their Scope; of an "if" the Steps of THEN and ELSE.

    A TERM that is put in may be far too long to be gone through: so its worth is found by those in the Scopes."""

    def __init__(self, deed, terms, scope, branches):
        self.deed = deed
        self.terms = terms
        self.scope = scope
        self.branches = branches


def top_scope():
    """The Scope of a SCRIPT itself: nothing is put in."""
    return Scope(None, (), ())


def steps_of(pieces, script, scope):
    """The Steps of a SCRIPT in a Scope, those of BODYs among them."""
    steps = []
    for deed in script:
        if deed[0] == "do":
            piece = pieces[deed[1]]
            steps.extend(steps_of(pieces, piece.body, Scope(scope, piece.params, deed[2])))
        else:
            steps.append(_step_of(pieces, deed, scope))
    return steps


def _step_of(pieces, deed, scope):
    sorts = FORMS[deed[0]]
    pairs = list(zip(sorts, deed[1:]))
    terms = [thing for sort, thing in pairs if sort == "term"]
    branches = [steps_of(pieces, thing, scope) for sort, thing in pairs if sort == "script"]
    return Step((deed[0], *[_put_in(scope, sort, thing) for sort, thing in pairs]), terms, scope, branches)


def _put_in(scope, sort, thing):
    if sort == "part":
        return scope.name_of(thing)
    return scope.put_in(thing) if sort == "term" else thing

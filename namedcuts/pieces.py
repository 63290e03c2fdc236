"""BOOKs and SCRIPTs by their form: the place of the first thing that is none, and how deep and how long they get."""

from namedcuts.errors import BadBook, BadScript
from namedcuts.kinds import is_name, is_tuple_of, is_word
from namedcuts.terms import is_script_term

MOST_PIECES = 8
MOST_PARAMS = 4
MOST_DEEDS = 30
MOST_WITHIN = 6
MOST_PUT_IN = 200
SORTS = ("bound", "part")

# What stands behind the word of each DEED but "do": a name of a PART, a HOUSE, a script TERM or a SCRIPT.
FORMS = {
    "split": ("part", "term", "part", "part"),
    "join": ("part", "part", "part"),
    "shift": ("part", "part", "term"),
    "move": ("part", "house"),
    "call": ("part", "part"),
    "off": ("part",),
    "on": ("part", "term", "term", "house"),
    "need": ("term", "term"),
    "if": ("term", "term", "script", "script"),
}


class Piece:
    """PARAMS and BODY of a PIECE, how deep "if" and "do" stand in this, and how many DEEDs it has, all put in."""

    def __init__(self, params, body, deep, many):
        self.params = params
        self.body = body
        self.deep = deep
        self.many = many


def see_book(order, thing):
    """A dict from the names of the PIECEs of a BOOK to these; BadBook of what is none."""
    if not is_tuple_of(thing, 0, MOST_PIECES):
        raise BadBook(())
    pieces = {}
    for number, piece in enumerate(thing):
        if not _is_headed(order.names, pieces, piece):
            raise BadBook((number,))
        name, params, body = piece
        bounds = tuple([word for sort, word in params if sort == "bound"])
        place = place_in(order.names + bounds, pieces, body)
        if place is not None:
            raise BadBook((number, *place))
        deep, many = _size_of(pieces, body)
        pieces[name] = Piece(params, body, deep, many)
    return pieces


def _is_headed(names, pieces, thing):
    """Whether it is a PIECE behind some others, whatever its BODY is."""
    if not is_tuple_of(thing, 3, 3) or not is_name(thing[0]) or thing[0] in pieces:
        return False
    params = thing[1]
    if not is_tuple_of(params, 0, MOST_PARAMS) or not all([_is_param(names, param) for param in params]):
        return False
    return len(set([word for _, word in params])) == len(params)


def _is_param(names, thing):
    if not is_tuple_of(thing, 2, 2) or not is_word(thing[0], SORTS) or not is_name(thing[1]):
        return False
    return thing[0] == "part" or thing[1] not in names


def see_script(order, pieces, thing):
    """BadScript of what is no SCRIPT of an Order and some PIECEs."""
    place = place_in(order.names, pieces, thing)
    if place is not None:
        raise BadScript(place)


def place_in(names, pieces, thing):
    """The place of what makes a thing no SCRIPT of some NAMES and PIECEs, or None."""
    place = _first_place(names, pieces, thing)
    if place is not None:
        return place
    deep, many = _size_of(pieces, thing)
    return () if deep > MOST_WITHIN or many > MOST_PUT_IN else None


def _first_place(names, pieces, thing):
    """The place of the first thing that is no DEED, or None, however deep and long it gets."""
    if not is_tuple_of(thing, 0, MOST_DEEDS):
        return ()
    for number, deed in enumerate(thing):
        place = _place_in_deed(names, pieces, deed)
        if place is not None:
            return (number, *place)
    return None


def _place_in_deed(names, pieces, deed):
    """() of what is no DEED at all, the place of what is wrong in its THEN or ELSE, or None."""
    if not _is_done(names, pieces, deed) and not is_formed(names, deed):
        return ()
    if deed[0] == "if":
        for number in (0, 1):
            place = _first_place(names, pieces, deed[3 + number])
            if place is not None:
                return (number, *place)
    return None


def is_formed(names, deed):
    """Whether it is a DEED but "do", whatever its THEN and ELSE are."""
    if not is_tuple_of(deed, 2, 5) or not isinstance(deed[0], str) or deed[0] not in FORMS:
        return False
    sorts = FORMS[deed[0]]
    return len(deed) == len(sorts) + 1 and all([_is_of(names, sort, thing) for sort, thing in zip(sorts, deed[1:])])


def _is_of(names, sort, thing):
    if sort == "script":
        return True
    return is_script_term(names, thing) if sort in ("term", "bound") else is_name(thing)


def _is_done(names, pieces, deed):
    """Whether it is a DEED "do"."""
    if not is_tuple_of(deed, 3, 3) or not is_word(deed[0], ("do",)) or not is_word(deed[1], pieces):
        return False
    params = pieces[deed[1]].params
    if not is_tuple_of(deed[2], len(params), len(params)):
        return False
    return all([_is_of(names, sort, thing) for (sort, _), thing in zip(params, deed[2])])


def _size_of(pieces, script):
    """A pair: how deep "if" and "do" stand in a SCRIPT, and how many DEEDs it has, all put in."""
    deep = 0
    many = 0
    for deed in script:
        deeper, more = _size_within(pieces, deed)
        deep = max(deep, deeper)
        many += more
    return deep, many


def _size_within(pieces, deed):
    """A pair of these of a DEED, itself counted."""
    if deed[0] == "do":
        piece = pieces[deed[1]]
        return piece.deep + 1, piece.many + 1
    if deed[0] == "if":
        then_deep, then_many = _size_of(pieces, deed[3])
        else_deep, else_many = _size_of(pieces, deed[4])
        return max(then_deep, else_deep) + 1, then_many + else_many + 1
    return 0, 1

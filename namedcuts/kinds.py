"""What a thing is by its kind alone: asked of anything, so each test begins with the kind."""

LETTERS = "abcdefghijklmnopqrstuvwxyz"


def is_whole(thing):
    """Whether it is an integer; True and False are none."""
    return isinstance(thing, int) and not isinstance(thing, bool)


def are_whole(thing):
    """Whether it is a tuple of integers."""
    return isinstance(thing, tuple) and all([is_whole(item) for item in thing])


def is_name(thing):
    """Whether it is a string of 1 to 6 letters a to z."""
    if not isinstance(thing, str) or not 1 <= len(thing) <= 6:
        return False
    return all([letter in LETTERS for letter in thing])


def is_word(thing, words):
    """Whether it is one of some strings."""
    return isinstance(thing, str) and thing in words


def are_words(thing, words):
    """Whether it is a tuple of strings that are all among these."""
    return isinstance(thing, tuple) and all([is_word(item, words) for item in thing])


def is_tuple_of(thing, least, most):
    """Whether it is a tuple of so many things."""
    return isinstance(thing, tuple) and least <= len(thing) <= most

"""What a thing is by its kind alone: asked of anything, so each test begins with the kind."""

LETTERS = "abcdefghijklmnopqrstuvwxyz"


def is_whole(thing):
    """Whether it is an integer; True and False are none."""
    return isinstance(thing, int) and not isinstance(thing, bool)


def are_whole(thing):
    """Whether it is a tuple of integers."""
    return isinstance(thing, tuple) and all([is_whole(item) for item in thing])


def is_name(thing):
    """Whether it is a string of 1 to 6 letters a to z."""
    if not isinstance(thing, str) or not 1 <= len(thing) <= 6:
        return False
    return all([letter in LETTERS for letter in thing])


def is_word(thing, words):
    """Whether it is one of some strings."""
    return isinstance(thing, str) and thing in words


def are_words(thing, words):
    """Whether it is a tuple of strings that are all among these."""
    return isinstance(thing, tuple) and all([is_word(item, words) for item in thing])


def is_made_of(thing, inner_of, most_deep, most):
    """Whether it and all within it are things of which inner_of tells the ones within, None of what is no such thing.

    They stand at most so deep, one without others in it being 1 deep, and are at most so many, itself counted."""
    waiting = [(thing, 1)]
    many = 0
    # What is too deep, or has too many in it, is left at once: it may have far more of them behind.
    while waiting and many <= most:
        part, deep = waiting.pop()
        many += 1
        within = inner_of(part)
        if deep > most_deep or within is None:
            return False
        waiting.extend([(inner, deep + 1) for inner in within])
    return many <= most


def is_tuple_of(thing, least, most):
    """Whether it is a tuple of so many things."""
    return isinstance(thing, tuple) and least <= len(thing) <= most

"""What kinds things are of, told of any thing."""

LETTERS = "abcdefghijklmnopqrstuvwxyz"
LONGEST_NAME = 8


def is_whole(thing):
    """Whether a thing is a whole number; truths are none."""
    return isinstance(thing, int) and not isinstance(thing, bool)


def is_whole_from(thing, least, most):
    """Whether a thing is a whole number from least to most."""
    return is_whole(thing) and least <= thing <= most


def is_tuple_of(thing, many):
    """Whether a thing is a tuple of just so many things."""
    return isinstance(thing, tuple) and len(thing) == many


def is_tuple_to(thing, most):
    """Whether a thing is a tuple of at most so many things."""
    return isinstance(thing, tuple) and len(thing) <= most


def is_name(thing):
    """Whether a thing is a text of one to eight letters a to z."""
    if not isinstance(thing, str) or not 1 <= len(thing) <= LONGEST_NAME:
        return False
    return all([sign in LETTERS for sign in thing])

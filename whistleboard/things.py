"""What any thing that is handed in may be: a whole number, a name, a tuple of some size."""

LETTERS = "abcdefghijklmnopqrstuvwxyz"
LONGEST_NAME = 8


def is_whole(thing):
    """Whether the thing is a whole number."""
    # Python counts True and False among the ints, the watch room does not.
    return isinstance(thing, int) and not isinstance(thing, bool)


def is_whole_within(thing, least, most):
    """Whether the thing is a whole number from least to most."""
    return is_whole(thing) and least <= thing <= most


def is_name(thing):
    """Whether the thing is a name."""
    if not isinstance(thing, str) or not 1 <= len(thing) <= LONGEST_NAME:
        return False
    return all([sign in LETTERS for sign in thing])


def is_tuple_within(thing, least, most):
    """Whether the thing is a tuple of least to most things."""
    return isinstance(thing, tuple) and least <= len(thing) <= most

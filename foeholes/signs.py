"""What numbers, texts and tuples are, asked of anything."""

FIRST_SIGN = "!"
LAST_SIGN = "~"
MOST_SIGNS = 8


def is_number_below(thing, bound):
    """Whether the thing is a whole number from 0 on, below the bound."""
    if isinstance(thing, bool) or not isinstance(thing, int):
        return False
    return 0 <= thing < bound


def is_tuple(thing, least, most):
    """Whether the thing is a tuple of at least and at most so many parts."""
    return isinstance(thing, tuple) and least <= len(thing) <= most


def is_text(thing, signs, most):
    """Whether the thing is a text of some of the signs, at most so many in all."""
    if not isinstance(thing, str) or len(thing) > most:
        return False
    return all([sign in signs for sign in thing])


def is_signs(thing):
    """Whether the thing is a text of one to eight unlike signs, sorted."""
    if not isinstance(thing, str) or not 1 <= len(thing) <= MOST_SIGNS:
        return False
    if not all([FIRST_SIGN <= sign <= LAST_SIGN for sign in thing]):
        return False
    return all([ahead < behind for ahead, behind in zip(thing, thing[1:])])

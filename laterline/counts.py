"""What a number is here: the checks that all modules share."""

from laterline.errors import NoCount

LAST_PLACE = 10 ** 6


def is_number(thing):
    """Whether it is a number: Python counts True and False as ints, this program does not."""
    return isinstance(thing, int) and not isinstance(thing, bool)


def is_within(thing, least, most):
    """Whether it is a number from the least to the most one."""
    return is_number(thing) and least <= thing <= most


def require_within(thing, least, most, what):
    """Refuse an argument, called by its name, that is no number from the least to the most one."""
    if not is_within(thing, least, most):
        raise NoCount(what)


def is_count(thing):
    """Whether it is a number from 0 on."""
    return is_number(thing) and thing >= 0


def is_place(thing):
    """Whether it is a place, or 0 for the place ahead of all rows."""
    return is_within(thing, 0, LAST_PLACE)

"""Rules that say when a row is called done, and houses that were not asked."""

from laterline.counts import is_within, require_within
from laterline.errors import NoHouse, NoRule
from laterline.rows import is_word

WRITTEN = ("written",)
HOUSES = 8


def is_house(thing, *, houses=HOUSES):
    """Whether it is one of so many houses."""
    return is_within(thing, 0, houses - 1)


def require_house(thing, *, houses=HOUSES):
    """Refuse what is none of so many houses."""
    if not is_house(thing, houses=houses):
        raise NoHouse(thing)


def is_counted_rule(thing):
    """Whether a tuple is a rule that asks for other houses beside the writer."""
    if len(thing) != 2 or not is_within(thing[1], 1, HOUSES - 1):
        return False
    return is_word(thing[0], "held") or is_word(thing[0], "applied")


def is_rule(thing):
    """Whether it is a rule."""
    if not isinstance(thing, tuple):
        return False
    if len(thing) == 1:
        return is_word(thing[0], WRITTEN[0])
    return is_counted_rule(thing)


def require_rule(thing):
    """Refuse what is no rule."""
    if not is_rule(thing):
        raise NoRule()


def need(rule):
    """How many houses hold what is called done under a rule, its writer among them."""
    require_rule(rule)
    return 1 if rule == WRITTEN else rule[1] + 1


def require_asked(asked, houses):
    """Refuse what is no tuple of unlike houses of so many."""
    if not isinstance(asked, tuple):
        raise NoHouse(asked)
    for at, house in enumerate(asked):
        require_house(house, houses=houses)
        if house in asked[:at]:
            raise NoHouse(house)


def avoiding(houses, asked, need):
    """The least so many houses that were not asked, or None where there are too few."""
    require_within(houses, 1, HOUSES, "houses")
    require_within(need, 1, HOUSES, "need")
    require_asked(asked, houses)
    others = [house for house in range(houses) if house not in asked]
    return tuple(others[:need]) if len(others) >= need else None

"""Readings: a key's value at a moment, and tokens of what an asker has seen."""

from laterline.counts import is_count
from laterline.errors import Backward, NoKey, NoMoment, NoToken, Parted, TooEarly
from laterline.lines import is_line_and_place, line_at
from laterline.rows import is_key

NOTHING_SEEN = (0, 0)


def require_question(key, at, token):
    """Refuse what is no key, no moment or no token."""
    if not is_key(key):
        raise NoKey()
    if at is not None and not is_count(at):
        raise NoMoment()
    if token is not None and not is_line_and_place(token):
        raise NoToken()


def has_parted(log, token):
    """Whether a log can't have the row of a token, nor come to have it."""
    line, place = token
    found = line_at(log.history(), place)
    # Where no row stands yet a greater line may still come, but never a lesser one.
    return found > line if place > log.end() else found != line


def read_from(house, key, at, token):
    """A key's value at a moment of a house, or None, and the token of that moment."""
    require_question(key, at, token)
    seen = NOTHING_SEEN if token is None else token
    if has_parted(house.own_log, seen):
        raise Parted()
    applied = house.applied()
    moment = applied if at is None else at
    if max(moment, seen[1]) > applied:
        raise TooEarly(applied)
    if moment < seen[1]:
        raise Backward(seen[1])
    value = house.state.value(key, at=moment)
    return (value, (line_at(house.own_log.history(), moment), moment))

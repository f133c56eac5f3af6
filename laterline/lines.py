"""Lines of time, and histories: which line each row of a log was written on."""

from laterline.counts import LAST_PLACE, is_place, is_within
from laterline.errors import Full, NoCount, NoHistory, NoPlace

ROOT = ((0, 0),)
LINES = 60
LAST_LINE = 10 ** 9


def is_line(thing):
    """Whether it is the number of a line."""
    return is_within(thing, 0, LAST_LINE)


def is_line_and_place(thing):
    """Whether it is a pair of a line and a place."""
    return isinstance(thing, tuple) and len(thing) == 2 and is_line(thing[0]) and is_place(thing[1])


def is_history(thing):
    """Whether it is a history."""
    if not isinstance(thing, tuple) or not 1 <= len(thing) <= LINES:
        return False
    if not all([is_line_and_place(pair) for pair in thing]) or thing[0][1] != 0:
        return False
    return all([ahead[0] < behind[0] and ahead[1] <= behind[1] for ahead, behind in zip(thing, thing[1:])])


def require_history(thing):
    """Refuse what is no history."""
    if not is_history(thing):
        raise NoHistory()


def require_place(thing):
    """Refuse what is no place and not 0."""
    if not is_place(thing):
        raise NoPlace(thing)


def line_at(history, place):
    """The line of the row of that place, of what is known to be a history; the place may lie behind the last one."""
    found = history[0][0]
    for line, fork in history:
        if fork < place:
            found = line
    return found


def line_of(history, place):
    """The line of the row of that place, and of place 0 the first line."""
    require_history(history)
    require_place(place)
    return line_at(history, place)


def extended(history, line, fork):
    """The history with one more line, which begins at that fork."""
    require_history(history)
    last_line, last_fork = history[-1]
    if not is_within(line, last_line + 1, LAST_LINE):
        raise NoCount("line")
    if not is_within(fork, last_fork, LAST_PLACE):
        raise NoCount("fork")
    if len(history) == LINES:
        raise Full("lines")
    return (*history, (line, fork))


def standing(history, end):
    """The line of a log's last row, and the log's end."""
    require_history(history)
    require_place(end)
    return (line_of(history, end), end) if end > 0 else (-1, 0)


def require_logs(one, end, other, stop):
    """Refuse what are no two logs: the histories go first, then the first end, then the second one."""
    require_history(one)
    require_history(other)
    require_place(end)
    require_place(stop)


def further(one, end, other, stop):
    """Whether the second log stands further than the first one."""
    require_logs(one, end, other, stop)
    return standing(other, stop) > standing(one, end)

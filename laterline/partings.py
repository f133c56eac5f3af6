"""The parting of two logs: the last place up to which all their rows are the same."""

from laterline.counts import is_number
from laterline.lines import line_at, require_logs


def first_places(history):
    """The places at which the rows of a history's lines begin."""
    return [fork + 1 for line, fork in history]


def parting(one, end, other, stop):
    """The greatest place up to which all rows of two logs are the same."""
    require_logs(one, end, other, stop)
    last = min(end, stop)
    # Between these places no log changes its line, so that rows part at one of them or nowhere.
    for place in sorted(set(first_places(one) + first_places(other))):
        if place <= last and line_at(one, place) != line_at(other, place):
            return place - 1
    return last


def line_there(history, end, place):
    """The line of the row of that place, or None where the log has none."""
    return line_at(history, place) if place <= end else None


def paper_of(one, end, other, stop):
    """The paper of a parting: the place, and the lines of the rows behind it in both logs."""
    place = parting(one, end, other, stop)
    return (place, line_there(one, end, place + 1), line_there(other, stop, place + 1))


def is_beginning(one, end, other, stop):
    """Whether the first log is a beginning of the second one, or the same."""
    return parting(one, end, other, stop) == end


def is_line_or_none(thing):
    """Whether a paper may tell it of the row behind a parting."""
    return thing is None or is_number(thing)


def is_paper(thing):
    """Whether it is a tuple of a number and two numbers or Nones."""
    if not isinstance(thing, tuple) or len(thing) != 3:
        return False
    return is_number(thing[0]) and is_line_or_none(thing[1]) and is_line_or_none(thing[2])


def right_parting(one, end, other, stop, paper):
    """Whether that is the paper of the parting of these logs."""
    right = paper_of(one, end, other, stop)
    # Only a paper of the right kinds is compared: 1 and True would be equal.
    return is_paper(paper) and paper == right

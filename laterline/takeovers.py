"""Takeovers: what one finds and tells, and the papers and lines that are right, whoever made them."""

from laterline.books import is_rising
from laterline.counts import is_number, is_place, require_within
from laterline.houses import common_place, may_begin
from laterline.lines import is_line
from laterline.rows import is_row
from laterline.rules import HOUSES, avoiding, is_house, need, require_rule

NO_ROWS = (-1, 0)
FIRST_LINE = (0, 0, None, 0, False)


def houses_further(taker, asked):
    """The numbers of those houses that stand further than the one that takes over."""
    return [house.number for house in asked if house.stands_at() > taker.stands_at()]


def lost_rows(taker, asked):
    """The rows in the logs of those houses that are no rows of the one that takes over, each once."""
    lost = {}
    for house in asked:
        for line, place, row in house.rows_left(common_place(house, taker)):
            lost[(line, place)] = row
    return tuple([(line, place, lost[(line, place)]) for line, place in sorted(lost)])


def takeover_paper(taker, line, asked):
    """The paper of a takeover of that line by one of those houses."""
    standings = tuple([(house.number,) + house.stands_at() for house in asked])
    return (taker.number, line, taker.own_log.end(), standings, lost_rows(taker, asked))


def is_standing(thing, houses):
    """Whether it says where one of so many houses stands."""
    if not isinstance(thing, tuple) or len(thing) != 3 or not is_house(thing[0], houses=houses):
        return False
    line, end = thing[1:]
    if not is_number(line) or not is_place(end):
        return False
    return is_line(line) if end > 0 else (line, end) == NO_ROWS


def are_standings(thing, houses):
    """Whether it is a tuple that says where unlike houses stand, houses rising."""
    if not isinstance(thing, tuple) or not all([is_standing(part, houses) for part in thing]):
        return False
    return is_rising(tuple([part[0] for part in thing]))


def is_written_row(thing):
    """Whether it is a row with its line and its place."""
    if not isinstance(thing, tuple) or len(thing) != 3:
        return False
    return is_line(thing[0]) and is_place(thing[1]) and thing[1] > 0 and is_row(thing[2])


def are_written_rows(thing):
    """Whether it is a tuple of rows with their lines and places, which rise."""
    if not isinstance(thing, tuple) or not all([is_written_row(part) for part in thing]):
        return False
    return all([ahead[:2] < behind[:2] for ahead, behind in zip(thing, thing[1:])])


def is_takeover_paper(thing, houses):
    """Whether it is a tuple of a house, a line that it may begin, a fork, standings and rows."""
    if not isinstance(thing, tuple) or len(thing) != 5:
        return False
    if not is_house(thing[0], houses=houses) or not is_line(thing[1]) or not is_place(thing[2]):
        return False
    return may_begin(thing[0], houses, thing[1]) and are_standings(thing[3], houses) and are_written_rows(thing[4])


def right_takeover(houses, rule, paper):
    """Whether a takeover's paper is right for so many houses and a rule."""
    require_within(houses, 1, HOUSES, "houses")
    require_rule(rule)
    if not is_takeover_paper(paper, houses):
        return False
    house, line, fork, standings, lost = paper
    stands = {number: (last, end) for number, last, end in standings}
    if house not in stands or stands[house][1] != fork or max(stands.values()) != stands[house]:
        return False
    # The house stands furthest, so no line told there is greater than that of its last row.
    last_line = stands[house][0]
    meets = avoiding(houses, tuple(stands), need(rule)) is None
    return line > last_line and meets and all([row[0] < last_line for row in lost])


def is_first_line(thing):
    """Whether it is line 0 as it is told."""
    if not isinstance(thing, tuple) or len(thing) != 5 or thing[2] is not None or thing[4] is not False:
        return False
    # Only numbers are compared: 0 and False would be equal.
    return all([is_number(part) for part in (thing[0], thing[1], thing[3])]) and thing == FIRST_LINE


def is_later_line(thing, houses):
    """Whether it is a tuple of a line, a house that may begin it, its parent, its fork and a truth."""
    if not isinstance(thing, tuple) or len(thing) != 5:
        return False
    line, house, parent, fork, forced = thing
    if not is_line(line) or not is_number(house) or not may_begin(house, houses, line):
        return False
    return is_line(parent) and is_place(fork) and isinstance(forced, bool)


def right_lines(houses, lines):
    """Whether told lines are right for so many houses."""
    require_within(houses, 1, HOUSES, "houses")
    if not isinstance(lines, list) or len(lines) == 0 or not is_first_line(lines[0]):
        return False
    forks = {0: 0}
    for told in lines[1:]:
        if not is_later_line(told, houses):
            return False
        line, parent, fork = (told[0], told[2], told[3])
        if line in forks or parent not in forks or parent >= line or fork < forks[parent]:
            return False
        forks[line] = fork
    return True

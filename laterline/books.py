"""Books: what houses said of themselves, and what is called done by that."""

from laterline.counts import is_number, is_place, is_within
from laterline.errors import NoSaying
from laterline.lines import is_line
from laterline.rules import WRITTEN, is_house, need, require_rule


def is_saying(thing):
    """Whether it is what a house may say of itself: (house, line, end, applied)."""
    if not isinstance(thing, tuple) or len(thing) != 4:
        return False
    house, line, end, applied = thing
    return is_house(house) and is_line(line) and is_place(end) and is_within(applied, 0, end)


class Book:
    """Of each house and line the greatest end and the greatest applied number that were told."""

    def __init__(self):
        self.sayings = {}

    def note(self, saying):
        """Put one saying in; nothing that is less than what stands changes it."""
        if not is_saying(saying):
            raise NoSaying()
        house, line, end, applied = saying
        most_end, most_applied = self.sayings.get((house, line), (0, 0))
        self.sayings[(house, line)] = (max(end, most_end), max(applied, most_applied))

    def said(self):
        """All sayings, rising."""
        return tuple([key + self.sayings[key] for key in sorted(self.sayings)])

    def told(self, house, line):
        """The end and the applied number that a house told on a line, or None."""
        return self.sayings.get((house, line))

    def __len__(self):
        return len(self.sayings)

    def __eq__(self, other):
        return isinstance(other, Book) and self.sayings == other.sayings


def counted(saying, rule):
    """The number of a saying that a rule looks at."""
    return saying[3] if rule[0] == "applied" else saying[2]


def others_told(book, line, house, rule):
    """What the houses beside that one told on a line: a dict of the numbers that the rule looks at."""
    return {saying[0]: counted(saying, rule) for saying in book.said() if saying[1] == line and saying[0] != house}


def place_reached(told, end, rule):
    """The place that others' numbers and the writer's end let a rule reach; 0 where too few others told any."""
    if rule == WRITTEN:
        return end
    falling = sorted(told.values(), reverse=True)
    return min(falling[rule[1] - 1], end) if len(falling) >= rule[1] else 0


def done_of(book, line, fork, end, house, rule):
    """The paper of what is done on a line by a book under a rule, or None."""
    require_rule(rule)
    told = others_told(book, line, house, rule)
    place = place_reached(told, end, rule)
    if place <= fork:
        return None
    having = [other for other in told if told[other] >= place]
    return (line, place, tuple(sorted([house, *having])))


def is_rising(thing):
    """Whether it is a tuple of numbers that rise."""
    if not isinstance(thing, tuple) or not all([is_number(part) for part in thing]):
        return False
    return all([ahead < behind for ahead, behind in zip(thing, thing[1:])])


def is_done_paper(thing):
    """Whether it is a tuple of two numbers and rising houses."""
    if not isinstance(thing, tuple) or len(thing) != 3:
        return False
    return is_number(thing[0]) and is_number(thing[1]) and is_rising(thing[2])


def right_done(book, line, fork, end, house, rule, paper):
    """Whether a paper of what is done is right, whoever made it."""
    require_rule(rule)
    if not is_done_paper(paper) or paper[0] != line or not fork < paper[1] <= end:
        return False
    place, houses = paper[1:]
    told = others_told(book, line, house, rule)
    having = [other for other in houses if other == house or told.get(other, 0) >= place]
    return house in houses and len(houses) >= need(rule) and len(having) == len(houses)

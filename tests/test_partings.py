"""Promises 2, 3 and 9: the parting of two logs, its paper, beginnings."""

import random
import unittest

from laterline.errors import NoHistory, NoPlace
from laterline.lines import ROOT, line_of
from laterline.partings import is_beginning, paper_of, parting, right_parting
from tests.helpers import Case, Yes, long_history, not_numbers, odd_things, wrong_histories, wrong_places

LAST = 10 ** 6
FORKS = ((2, 0), (5, 3), (6, 3), (9, 7))
# Each: the first log, the second one, and the paper of their parting.
PAIRS = [
    # one and the same log, or one that is longer
    ((ROOT, 0), (ROOT, 0), (0, None, None)),
    ((ROOT, 7), (ROOT, 7), (7, None, None)),
    ((ROOT, LAST), (ROOT, LAST), (LAST, None, None)),
    ((ROOT, 0), (ROOT, LAST), (0, None, 0)),
    ((ROOT, 3), (ROOT, 8), (3, None, 0)),
    ((FORKS, 3), (FORKS, 8), (3, None, 6)),
    ((FORKS, 2), (FORKS, 8), (2, None, 2)),
    ((FORKS, 7), (FORKS, LAST), (7, None, 9)),
    ((FORKS, LAST - 1), (FORKS, LAST), (LAST - 1, None, 9)),
    # first lines in common, then others
    ((((0, 0), (3, 5)), 9), (((0, 0), (4, 5)), 9), (5, 3, 4)),
    ((((0, 0), (3, 5)), 9), (((0, 0), (4, 7)), 9), (5, 3, 0)),
    ((((0, 0), (3, 5), (8, 6)), 9), (((0, 0), (3, 5), (7, 6)), 9), (6, 8, 7)),
    ((((0, 0), (3, 5), (8, 8)), 9), (((0, 0), (3, 5), (7, 6)), 9), (6, 3, 7)),
    ((((0, 0), (3, 5)), 9), (ROOT, 9), (5, 3, 0)),
    ((((0, 0), (3, LAST - 1)), LAST), (ROOT, LAST), (LAST - 1, 3, 0)),
    ((((0, 0), (3, LAST)), LAST), (ROOT, LAST), (LAST, None, None)),
    # the same line again behind another one: all rows ahead must be the same, too
    ((((0, 0), (3, 5), (9, 8)), 12), (((0, 0), (4, 5), (9, 8)), 12), (5, 3, 4)),
    ((((0, 0), (3, 5)), 12), (((0, 0), (3, 2)), 12), (2, 0, 3)),
    # unlike first lines
    ((((1, 0),), 4), (((2, 0),), 9), (0, 1, 2)),
    ((((1, 0), (5, 2)), 4), (((2, 0), (5, 2)), 4), (0, 1, 2)),
    ((((1, 0),), 0), (((2, 0),), 9), (0, None, 2)),
    ((((1, 0),), 0), (((2, 0),), 0), (0, None, None)),
    ((((1, 0),), 1), (((2, 0),), 1), (0, 1, 2)),
    # an end at a fork, and one behind it
    ((((0, 0), (3, 5)), 5), (ROOT, 5), (5, None, None)),
    ((((0, 0), (3, 5)), 5), (ROOT, 6), (5, None, 0)),
    ((((0, 0), (3, 5)), 6), (ROOT, 5), (5, 3, None)),
    ((((0, 0), (3, 5)), 6), (ROOT, 6), (5, 3, 0)),
    ((((0, 0), (3, 5)), 4), (((0, 0), (4, 5)), 6), (4, None, 0)),
    # pairs without rows
    ((((0, 0), (3, 5), (4, 5)), 9), (((0, 0), (4, 5)), 9), (9, None, None)),
    ((((0, 0), (3, 5), (4, 5)), 9), (((0, 0), (3, 5)), 9), (5, 4, 3)),
    ((((1, 0), (7, 0)), 2), (((2, 0), (7, 0)), 2), (2, None, None)),
    ((((1, 0), (7, 0)), 2), (((2, 0), (7, 0), (8, 1)), 2), (1, 7, 8)),
    ((long_history(60), 2), (((59, 0),), 2), (2, None, None)),
    ((long_history(60), 2), (long_history(59), 2), (0, 59, 58)),
    # forks behind the end
    ((((0, 0), (3, 9)), 4), (((0, 0), (4, 4)), 4), (4, None, None)),
    ((((0, 0), (3, 9)), 4), (((0, 0), (4, 4)), 5), (4, None, 4)),
    ((((0, 0), (3, LAST)), 4), (((0, 0), (4, LAST)), 4), (4, None, None)),
    ((((0, 0), (3, LAST)), LAST), (((0, 0), (4, LAST)), LAST), (LAST, None, None)),
]


def both_ways():
    for (one, end), (other, stop), (place, mine, yours) in PAIRS:
        yield (one, end, other, stop), (place, mine, yours)
        yield (other, stop, one, end), (place, yours, mine)


def random_log(chance):
    line, fork, pairs = chance.randrange(3), 0, []
    for _ in range(chance.randrange(1, 5)):
        pairs.append((line, fork))
        line, fork = line + chance.randrange(1, 3), fork + chance.randrange(3)
    return tuple(pairs), chance.randrange(9)


def plain_paper(one, end, other, stop):
    """The paper by counting place for place."""
    place = 0
    while place < min(end, stop) and line_of(one, place + 1) == line_of(other, place + 1):
        place += 1
    mine = line_of(one, place + 1) if place < end else None
    yours = line_of(other, place + 1) if place < stop else None
    return place, mine, yours


class PartingTest(Case):

    def test_partings_and_papers(self):
        for logs, paper in both_ways():
            self.same(parting(*logs), paper[0])
            self.same(paper_of(*logs), paper)

    def test_beginnings(self):
        for logs, paper in both_ways():
            self.assertIs(is_beginning(*logs), paper[1] is None, logs)

    def test_random_logs_against_counting(self):
        chance = random.Random(9)
        for _ in range(2000):
            logs = random_log(chance) + random_log(chance)
            self.same(paper_of(*logs), plain_paper(*logs))
            self.same(parting(*logs), plain_paper(*logs)[0])


class RightPartingTest(Case):

    def test_right_papers(self):
        for logs, paper in both_ways():
            self.assertIs(right_parting(*logs, paper), True)
            self.assertIs(right_parting(*logs, paper_of(*logs)), True)

    def test_each_part_otherwise(self):
        for logs, (place, mine, yours) in both_ways():
            for wrong in ((place + 1, mine, yours), (place - 1, mine, yours), (None, mine, yours),
                          (place, 77, yours), (place, mine, 77), (place, -1, yours), (place, mine, -1),
                          (place, 10 ** 59, yours), (10 ** 59, mine, yours),
                          (place, mine), (place, mine, yours, None), (), (place,), [place, mine, yours],
                          ((place, mine, yours),), (place, (mine,), (yours,)), (place, [mine, yours])):
                self.assertIs(right_parting(*logs, wrong), False, (logs, wrong))
            if mine is not None:
                self.assertIs(right_parting(*logs, (place, None, yours)), False)
            if yours is not None:
                self.assertIs(right_parting(*logs, (place, mine, None)), False)
            if mine != yours:
                self.assertIs(right_parting(*logs, (place, yours, mine)), False)

    def test_truths_are_no_numbers(self):
        logs = (((0, 0), (1, 1)), 2, ROOT, 2)
        self.same(paper_of(*logs), (1, 1, 0))
        self.assertIs(right_parting(*logs, (1, 1, 0)), True)
        for wrong in ((True, 1, 0), (1, True, 0), (1, 1, False), (True, True, False)):
            self.assertIs(right_parting(*logs, wrong), False)
        self.assertIs(right_parting(ROOT, 0, ROOT, 0, (False, None, None)), False)

    def test_other_kinds(self):
        logs = (ROOT, 5, ((0, 0), (4, 2)), 5)
        for thing in odd_things() + ["204", "abc", b"abc", {2: 0}, (Yes(), Yes(), Yes())]:
            self.assertIs(right_parting(*logs, thing), False)
        for thing in not_numbers():
            for wrong in ((thing, 0, 4), (2, thing, 4), (2, 0, thing)):
                self.assertIs(right_parting(*logs, wrong), False)
        self.assertIs(right_parting(*logs, (2, 0, 4)), True)


class RefusalsTest(Case):

    def each(self):
        return [parting, paper_of, is_beginning, lambda *told: right_parting(*told, (0, None, None)),
                lambda *told: right_parting(*told, None)]

    def test_histories(self):
        for call in self.each():
            for history in wrong_histories():
                self.refused(NoHistory, {}, call, history, 0, ROOT, 0)
                self.refused(NoHistory, {}, call, ROOT, 0, history, 0)

    def test_ends(self):
        for call in self.each():
            for end in wrong_places():
                self.refused(NoPlace, {"place": end}, call, ROOT, end, ROOT, 0)
                self.refused(NoPlace, {"place": end}, call, ROOT, 0, ROOT, end)

    def test_order(self):
        for call in self.each():
            self.refused(NoHistory, {}, call, ROOT, -1, (), -2)
            self.refused(NoHistory, {}, call, (), -1, ROOT, -2)
            self.refused(NoPlace, {"place": -1}, call, ROOT, -1, ROOT, -2)
            self.refused(NoPlace, {"place": -2}, call, ROOT, 1, ROOT, -2)


if __name__ == "__main__":
    unittest.main()

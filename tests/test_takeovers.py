"""Promises 2, 3, 29 and 35: papers of takeovers and told lines that are right, whoever made them."""

import itertools
import unittest

from laterline.errors import NoCount, NoRule
from laterline.takeovers import right_lines, right_takeover
from tests.helpers import Case, Yes, not_numbers, odd_things
from tests.worlds import led, parted, write_rows

HELD = ("held", 1)
ROW = ("set", "a", 1)
LOST = ((0, 6, ROW), (0, 7, ("cut", "a")), (2, 4, ROW))
STANDINGS = ((0, 0, 9), (1, 3, 7), (3, -1, 0))
PAPER = (1, 5, 7, STANDINGS, LOST)
LINES = [(0, 0, None, 0, False), (1, 1, 0, 5, True), (4, 0, 1, 5, False), (6, 2, 0, 3, False), (5, 1, 4, 8, True)]


def with_part(told, at, part):
    return told[:at] + (part,) + told[at + 1:]


class TakeoverPaperTest(Case):

    def right(self, paper, *, houses=4, rule=HELD):
        self.assertIs(right_takeover(houses, rule, paper), True, paper)

    def wrong(self, paper, *, houses=4, rule=HELD):
        self.assertIs(right_takeover(houses, rule, paper), False)

    def test_a_right_one(self):
        self.right(PAPER)
        self.right((1, 5, 7, STANDINGS, ()))
        self.right((2, 2, 0, ((0, -1, 0), (1, -1, 0), (2, -1, 0)), ()))
        self.right((0, 1, 0, ((0, -1, 0),), ()), houses=1, rule=("written",))
        self.right((7, 10 ** 9 - 1, 10 ** 6, tuple((house, 3, 10 ** 6) for house in range(8)), ()), houses=8)

    def test_what_takeover_tells(self):
        for many, rule, asked in ((2, ("written",), (0,)), (4, HELD, (0, 3)), (4, ("applied", 7), ())):
            world = led(many, 5, followers=tuple(range(1, many)), rule=rule)
            self.right(world.takeover(1, asked), houses=many, rule=rule)
        world = parted(3)
        paper = world.takeover(2, (0, 1))
        self.same(len(paper[4]), 3)
        self.right(paper, houses=3, rule=("written",))

    def test_what_takeover_tells_beyond_the_rule(self):
        world = led(3, 5, followers=(1, 2))
        self.wrong(world.takeover(1, (0,), forced=True), houses=3, rule=("written",))
        world = led(3, 5, followers=(1, 2))
        write_rows(world, 0, 1)
        self.wrong(world.takeover(1, (0, 2), forced=True), houses=3, rule=("written",))

    def test_other_kinds(self):
        for thing in odd_things() + [list(PAPER), (), PAPER[:4], PAPER + ((),), (PAPER,), "paper", 5]:
            self.wrong(thing)
        for at in range(5):
            for thing in not_numbers():
                if at != 4 or not isinstance(thing, tuple) or len(thing) > 0:
                    self.wrong(with_part(PAPER, at, thing))

    def test_lists_for_tuples(self):
        self.wrong(with_part(PAPER, 3, list(STANDINGS)))
        self.wrong(with_part(PAPER, 3, (*STANDINGS[:2], [3, -1, 0])))
        self.wrong(with_part(PAPER, 4, list(LOST)))
        self.wrong(with_part(PAPER, 4, ([0, 6, ROW],)))
        self.wrong(with_part(PAPER, 4, ((0, 6, ["set", "a", 1]),)))

    def test_the_house(self):
        for house in (0, 2, 3, 4, 5, -1, 10 ** 59):
            self.wrong(with_part(PAPER, 0, house))
        self.wrong((2, 6, 7, STANDINGS, LOST))
        self.wrong((5, 5, 7, (*STANDINGS, (5, 3, 7)), LOST))

    def test_the_line(self):
        self.right(with_part(PAPER, 1, 9))
        self.right(with_part(PAPER, 1, 10 ** 9 - 3))
        for line in (0, 1, 3, 4, 6, 7, -3, 10 ** 9 + 1, 10 ** 59):
            self.wrong(with_part(PAPER, 1, line))

    def test_the_line_is_above_all_lines_told(self):
        for last, is_right in ((0, True), (4, True), (5, False), (6, False)):
            paper = (1, 5, 7, ((1, last, 7), (2, 0, 9), (3, -1, 0)), ())
            self.assertIs(right_takeover(4, HELD, paper), is_right and last != 0)
        self.right((1, 1, 7, ((1, 0, 7), (2, 0, 7), (3, -1, 0)), ()))

    def test_the_fork_is_the_end_of_the_house(self):
        for fork in (0, 6, 8, 9, -1, 10 ** 6 + 1):
            self.wrong(with_part(PAPER, 2, fork))

    def test_standings(self):
        for standings in ((), STANDINGS[:1], (STANDINGS[0], STANDINGS[2]), STANDINGS[::-1],
                          (STANDINGS[1], STANDINGS[0], STANDINGS[2]), (*STANDINGS, (3, -1, 0)),
                          (STANDINGS[0], *STANDINGS), (*STANDINGS, (4, 0, 1)), (*STANDINGS[:2], (-1, 0, 1))):
            self.wrong(with_part(PAPER, 3, standings))

    def test_one_standing(self):
        for standing in ((3, 3, 7), (3, 3, 1), (3, 2, 10 ** 6), (3, 0, 1)):
            self.right(with_part(PAPER, 3, (*STANDINGS[:2], standing)))
        for standing in ((3, 3, 0), (3, 0, 0), (3, -1, 1), (3, -2, 0), (3, -1, -1), (3, 2, 10 ** 6 + 1),
                         (3, 10 ** 9 + 1, 1), (3, True, 1), (3, 1, True), (True, 1, 1), (3, -1, False), (3, 1),
                         (3, 1, 1, 1), (3,), 3, None, (Yes(), Yes(), Yes()), (3, None, 0), (3, "0", 1), (3, Yes(), 0),
                         (3, -1, Yes())):
            self.wrong(with_part(PAPER, 3, (*STANDINGS[:2], standing)))

    def test_none_stands_further(self):
        for standing in ((3, 3, 8), (3, 4, 1), (3, 4, 7)):
            self.wrong(with_part(PAPER, 3, (*STANDINGS[:2], standing)))
        self.wrong((2, 2, 0, ((0, -1, 0), (1, 0, 1), (2, -1, 0)), ()))

    def test_enough_meet(self):
        for houses, k, asked in itertools.product(range(1, 9), range(1, 8), range(1, 9)):
            if asked <= houses:
                paper = (0, houses, 1, tuple((house, 0, 1) for house in range(asked)), ())
                self.assertIs(right_takeover(houses, ("applied", k), paper), asked + k + 1 > houses)
                self.assertIs(right_takeover(houses, ("written",), paper), asked == houses)

    def test_lost(self):
        for lost in ((LOST[1], LOST[0]), (LOST[0], LOST[0]), (LOST[0], (0, 6, ("cut", "b"))), (LOST[2], LOST[0])):
            self.wrong(with_part(PAPER, 4, lost))

    def test_one_lost_row(self):
        for row in ((0, 1, ROW), (2, 10 ** 6, ROW), (1, 7, ("cut", "z"))):
            self.right(with_part(PAPER, 4, (row,)))
        for row in ((3, 1, ROW), (4, 1, ROW), (0, 0, ROW), (0, -1, ROW), (-1, 1, ROW), (0, 10 ** 6 + 1, ROW),
                    (0, 1, ("set", "a")), (0, 1, ("set", "A", 1)), (0, 1, None), (0, 1), (0, 1, ROW, 1), (True, 1, ROW),
                    (0, True, ROW), (0, 1, ("set", "a", True)), ROW, None, (Yes(), Yes(), Yes())):
            self.wrong(with_part(PAPER, 4, (row,)))

    def test_nothing_is_lost_to_a_house_without_rows(self):
        self.wrong((2, 2, 0, ((0, -1, 0), (1, -1, 0), (2, -1, 0)), ((0, 1, ROW),)))

    def test_refused_in_order(self):
        for houses in not_numbers() + [0, -1, 9, 10 ** 59]:
            self.refused(NoCount, {"what": "houses"}, right_takeover, houses, HELD, PAPER)
            self.refused(NoCount, {"what": "houses"}, right_takeover, houses, None, None)
        for rule in odd_things() + [("held", 0), ("held", 8), ["written"], ("written", 1)]:
            self.refused(NoRule, {}, right_takeover, 4, rule, PAPER)
            self.refused(NoRule, {}, right_takeover, 1, rule, None)


class LinesTest(Case):

    def right(self, lines, houses=4):
        self.assertIs(right_lines(houses, lines), True, lines)

    def wrong(self, lines, houses=4):
        self.assertIs(right_lines(houses, lines), False)

    def test_right_ones(self):
        self.right(LINES)
        for many in range(1, 6):
            self.right(LINES[:many])
        self.right([LINES[0]], houses=1)
        self.right([LINES[0], (8, 0, 0, 10 ** 6, True), (10 ** 9, 0, 8, 10 ** 6, False)], houses=8)

    def test_what_lines_tells(self):
        world = parted(3)
        world.takeover(2, (0, 1))
        world.rejoin(0, 2)
        world.takeover(0, (1,), forced=True)
        self.same(len(world.lines()), 4)
        self.right(world.lines(), houses=3)

    def test_other_kinds(self):
        for thing in odd_things() + [tuple(LINES), (), "lines", 3, [LINES], [list(line) for line in LINES]]:
            self.wrong(thing)

    def test_the_first_line(self):
        for first in ((0, 0, 0, 0, False), (0, 0, None, 0, True), (0, 0, None, 1, False), (0, 1, None, 0, False),
                      (4, 0, None, 0, False), (False, 0, None, 0, False), (0, False, None, 0, False),
                      (0, 0, None, False, False), (0, 0, None, 0, 0), (0, 0, None, 0, None), (0, 0, None, 0),
                      (0, 0, False, 0, False), (0, 0, None, 0, False, 0), [0, 0, None, 0, False], None, (),
                      (Yes(), Yes(), None, Yes(), False), (Yes(), Yes(), Yes(), Yes(), Yes()), (0, 0, Yes(), 0, False),
                      (0, 0, None, 0, Yes())):
            self.wrong([first])
            self.wrong([first] + LINES[1:])
        self.wrong(LINES[1:])

    def test_numbers_are_unlike(self):
        self.wrong(LINES + [LINES[1]])
        self.wrong(LINES + [(5, 1, 0, 9, False)])
        self.wrong(LINES + [LINES[0]])
        self.wrong([LINES[0], (0, 0, 0, 0, False)])

    def test_each_line_leaves_its_house(self):
        for houses in (1, 2, 3, 5, 6, 7, 8):
            self.wrong(LINES, houses=houses)
        for house in (0, 2, 3, 5, -3, True, None, "1"):
            self.wrong([LINES[0], (1, house, 0, 5, True)])

    def test_parents(self):
        for parent in (None, 2, 3, 7, 8, 9, True, False, "0", -1, (), [], Yes()):
            self.wrong(LINES + [(7, 3, parent, 9, False)])
        for parent in (0, 1, 4, 5, 6):
            self.right(LINES + [(7, 3, parent, 9, False)])

    def test_a_parent_stands_ahead_in_the_list(self):
        self.wrong([LINES[0], LINES[2], LINES[1]])
        self.wrong([LINES[0], (1, 1, 1, 5, False)])

    def test_a_parent_is_less(self):
        self.wrong([LINES[0], (5, 1, 0, 0, False), (1, 1, 5, 3, False)])
        self.right([LINES[0], (5, 1, 0, 0, False), (1, 1, 0, 3, False)])

    def test_forks(self):
        self.wrong([*LINES[:2], (4, 0, 1, 4, False)])
        self.right([*LINES[:2], (4, 0, 0, 4, False)])
        self.right([LINES[0], (1, 1, 0, 0, False)])
        for fork in (-1, 10 ** 6 + 1, None, True, "5", (), Yes(), 10 ** 59):
            self.wrong([LINES[0], (1, 1, 0, fork, False)])

    def test_truths(self):
        for forced in (0, 1, None, "", "False", (), Yes()):
            self.wrong([LINES[0], (1, 1, 0, 5, forced)])

    def test_lines_beyond_the_bounds(self):
        for line in (-3, 10 ** 9 + 1, True, None, "1", 10 ** 59 + 1):
            self.wrong([LINES[0], (line, 1, 0, 5, False)])

    def test_parts_more_and_fewer(self):
        for line in ((1, 1, 0, 5), (1, 1, 0, 5, False, 0), (), [1, 1, 0, 5, False], None, 1, "11050"):
            self.wrong([LINES[0], line])

    def test_refused(self):
        for houses in not_numbers() + [0, -1, 9, 10 ** 59]:
            self.refused(NoCount, {"what": "houses"}, right_lines, houses, LINES)
            self.refused(NoCount, {"what": "houses"}, right_lines, houses, None)

    def test_nothing_is_changed(self):
        lines = list(LINES)
        self.right(lines)
        self.same(lines, LINES)


if __name__ == "__main__":
    unittest.main()

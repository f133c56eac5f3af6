"""Promises 2, 3, 8, 10 and 11: lines, histories, standings and extending."""

import unittest

from laterline.errors import Full, NoCount, NoHistory, NoPlace
from laterline.lines import LINES, ROOT, extended, further, is_history, line_of, standing
from tests.helpers import Case, long_history, not_numbers, wrong_histories, wrong_places

FORKS = ((2, 0), (5, 3), (6, 3), (9, 7))


class HistoriesTest(Case):

    def test_names(self):
        self.same(ROOT, ((0, 0),))
        self.same(LINES, 60)

    def test_histories(self):
        for history in (ROOT, FORKS, ((7, 0),), ((0, 0), (1, 0)), ((0, 0), (1, 0), (2, 0), (5, 4), (9, 4)),
                        ((0, 0), (1, 10 ** 6), (2, 10 ** 6)), ((10 ** 9, 0),), ((0, 0), (10 ** 9, 10 ** 6)),
                        ((0, 0), (10 ** 9 - 1, 10 ** 6 - 1))):
            self.assertIs(is_history(history), True, history)

    def test_lengths(self):
        for many, answer in ((0, False), (1, True), (2, True), (59, True), (60, True), (61, False), (62, False)):
            self.assertIs(is_history(long_history(many)), answer, many)

    def test_wrong_ones(self):
        for thing in wrong_histories():
            self.assertIs(is_history(thing), False)

    def test_things_of_any_kind_in_any_place(self):
        for thing in not_numbers():
            for history in ((thing,), ((0, 0), thing), (thing, (5, 5)), ((thing, 0),), ((0, thing),),
                            ((0, 0), (thing, 3)), ((0, 0), (3, thing)), ((0, 0), (3, thing), (4, 4))):
                self.assertIs(is_history(history), False)


class LineOfTest(Case):

    def test_at_forks_and_behind_them(self):
        lines = [line_of(FORKS, place) for place in range(10)]
        self.same(lines, [2, 2, 2, 2, 6, 6, 6, 6, 9, 9])

    def test_a_pair_whose_fork_is_the_next_ones_has_no_rows(self):
        history = ((1, 0), (3, 0), (4, 2), (8, 2), (9, 2))
        self.same([line_of(history, place) for place in range(5)], [1, 3, 3, 9, 9])

    def test_place_0_has_the_first_line(self):
        for history in (ROOT, FORKS, ((7, 0), (8, 0)), long_history(60)):
            self.same(line_of(history, 0), history[0][0])

    def test_the_last_place(self):
        self.same(line_of(ROOT, 10 ** 6), 0)
        self.same(line_of(FORKS, 10 ** 6), 9)
        self.same(line_of(((0, 0), (4, 10 ** 6)), 10 ** 6), 0)
        self.same(line_of(((0, 0), (4, 10 ** 6 - 1)), 10 ** 6), 4)
        self.same(line_of(long_history(60), 1), 59)

    def test_refusals(self):
        for history in wrong_histories():
            self.refused(NoHistory, {}, line_of, history, 1)
        for place in wrong_places():
            self.refused(NoPlace, {"place": place}, line_of, FORKS, place)
        self.refused(NoHistory, {}, line_of, [], -1)


class ExtendedTest(Case):

    def test_extended(self):
        self.same(extended(ROOT, 1, 0), ((0, 0), (1, 0)))
        self.same(extended(FORKS, 10, 7), (*FORKS, (10, 7)))
        self.same(extended(FORKS, 12, 30), (*FORKS, (12, 30)))
        self.same(extended(FORKS, 10 ** 9, 10 ** 6), (*FORKS, (10 ** 9, 10 ** 6)))
        self.same(extended(long_history(59), 59, 0), long_history(60))
        self.same(FORKS, ((2, 0), (5, 3), (6, 3), (9, 7)))

    def test_lines_refused(self):
        for line in not_numbers() + [-1, 0, 2, 8, 9, 10 ** 9 + 1, 10 ** 59]:
            self.refused(NoCount, {"what": "line"}, extended, FORKS, line, 7)
        self.refused(NoCount, {"what": "line"}, extended, ((10 ** 9, 0),), 10 ** 9, 0)
        self.refused(NoCount, {"what": "line"}, extended, ((10 ** 9, 0),), 10 ** 9 + 1, 0)
        self.refused(NoCount, {"what": "line"}, extended, ROOT, 0, 0)
        self.refused(NoCount, {"what": "line"}, extended, ROOT, True, 0)

    def test_forks_refused(self):
        for fork in not_numbers() + [-1, 0, 6, 10 ** 6 + 1, 10 ** 59]:
            self.refused(NoCount, {"what": "fork"}, extended, FORKS, 10, fork)
        self.refused(NoCount, {"what": "fork"}, extended, ROOT, 1, -1)
        self.refused(NoCount, {"what": "fork"}, extended, ROOT, 1, False)

    def test_histories_refused(self):
        for history in wrong_histories():
            self.refused(NoHistory, {}, extended, history, 10 ** 9, 10 ** 6)

    def test_full(self):
        self.refused(Full, {"what": "lines"}, extended, long_history(60), 60, 0)
        self.refused(Full, {"what": "lines"}, extended, long_history(60), 10 ** 9, 10 ** 6)

    def test_order_of_refusals(self):
        self.refused(NoHistory, {}, extended, None, None, None)
        self.refused(NoHistory, {}, extended, long_history(61), 0, -1)
        self.refused(NoCount, {"what": "line"}, extended, long_history(60), 59, -1)
        self.refused(NoCount, {"what": "line"}, extended, ROOT, None, None)
        self.refused(NoCount, {"what": "fork"}, extended, long_history(60), 60, -1)


class StandingTest(Case):

    def test_no_rows(self):
        for history in (ROOT, FORKS, ((7, 0), (8, 0))):
            self.same(standing(history, 0), (-1, 0))

    def test_the_line_is_that_of_the_last_row(self):
        self.same(standing(ROOT, 1), (0, 1))
        self.same(standing(FORKS, 3), (2, 3))
        self.same(standing(FORKS, 4), (6, 4))
        self.same(standing(FORKS, 7), (6, 7))
        self.same(standing(FORKS, 8), (9, 8))
        self.same(standing(FORKS, 10 ** 6), (9, 10 ** 6))

    def test_refusals(self):
        for history in wrong_histories():
            self.refused(NoHistory, {}, standing, history, 0)
        for end in wrong_places():
            self.refused(NoPlace, {"place": end}, standing, ROOT, end)
        self.refused(NoHistory, {}, standing, (), -1)


class FurtherTest(Case):

    def check(self, one, end, other, stop):
        """The second log stands further, and so the first one doesn't."""
        self.assertIs(further(one, end, other, stop), True)
        self.assertIs(further(other, stop, one, end), False)

    def test_a_longer_log_of_one_line(self):
        self.check(ROOT, 3, ROOT, 4)
        self.check(ROOT, 0, ROOT, 1)
        self.check(ROOT, 9, ROOT, 10)

    def test_a_greater_line_goes_ahead_of_a_greater_end(self):
        self.check(ROOT, 100, ((0, 0), (1, 3)), 4)
        self.check(((0, 0), (1, 3)), 100, ((0, 0), (2, 1)), 2)

    def test_a_line_without_rows_yet_does_not_count(self):
        self.check(((0, 0), (9, 5)), 5, ROOT, 6)
        self.check(((0, 0), (9, 5)), 5, ((0, 0), (1, 3)), 4)
        self.assertIs(further(ROOT, 5, ((0, 0), (9, 5)), 5), False)
        self.assertIs(further(((0, 0), (9, 5)), 5, ROOT, 5), False)

    def test_no_rows(self):
        self.check(((9, 0),), 0, ROOT, 1)
        self.assertIs(further(((9, 0),), 0, ROOT, 0), False)
        self.assertIs(further(ROOT, 0, ((9, 0),), 0), False)

    def test_a_log_and_itself(self):
        for end in (0, 1, 3, 7, 8, 10 ** 6):
            self.assertIs(further(FORKS, end, FORKS, end), False)

    def test_refusals(self):
        for history in wrong_histories():
            self.refused(NoHistory, {}, further, history, 0, ROOT, 0)
            self.refused(NoHistory, {}, further, ROOT, 0, history, 0)
        for end in wrong_places():
            self.refused(NoPlace, {"place": end}, further, ROOT, end, ROOT, 0)
            self.refused(NoPlace, {"place": end}, further, ROOT, 0, ROOT, end)

    def test_order_of_refusals(self):
        self.refused(NoHistory, {}, further, ROOT, -1, (), -2)
        self.refused(NoHistory, {}, further, (), -1, ROOT, -2)
        self.refused(NoPlace, {"place": -1}, further, ROOT, -1, ROOT, -2)
        self.refused(NoPlace, {"place": -2}, further, ROOT, 1, ROOT, -2)


if __name__ == "__main__":
    unittest.main()

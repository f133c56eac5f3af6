"""Promises 2, 3, 12, 13 and 14: a log, its history, floor, end and rows."""

import copy
import unittest

from laterline.errors import Full, Gap, NoCount, NoHistory, NoPlace, NoRow, TooOld
from laterline.lines import ROOT
from laterline.logs import Log
from tests.helpers import Case, long_history, not_numbers, odd_things, wrong_histories, wrong_places

LAST = 10 ** 6
FORKS = ((2, 0), (5, 3), (6, 3), (9, 7))


def row_of(number):
    return ("set", "k", number) if number % 3 else ("cut", "k")


def rows_of(first, last):
    return tuple(row_of(number) for number in range(first, last + 1))


def written(history, floor, end):
    """A log whose row of each place bears that place."""
    log = Log(history=history, floor=floor)
    log.add_rows(history, floor, rows_of(floor + 1, end))
    return log


class LogCase(Case):

    def is_as(self, log, history, floor, rows):
        """The log has this history and floor and just these rows."""
        self.same(log.history(), history)
        self.same(log.line(), history[-1][0])
        self.same(log.floor(), floor)
        self.same(log.end(), floor + len(rows))
        self.same(len(log), len(rows))
        self.same(log.rows(floor), tuple(rows))

    def unchanged(self, log, kind, fields, call, *told, **named):
        """The call is refused and leaves all as it was."""
        before = copy.deepcopy(log)
        self.refused(kind, fields, call, *told, **named)
        self.assertEqual(log, before)
        self.is_as(log, before.history(), before.floor(), before.rows(before.floor()))


class BeginningTest(LogCase):

    def test_at_first(self):
        self.is_as(Log(), ROOT, 0, ())

    def test_a_history_and_a_floor_of_ones_own(self):
        for history in (ROOT, FORKS, ((7, 0), (8, LAST)), long_history(60)):
            for floor in (0, 1, 6, 7, 8, LAST):
                self.is_as(Log(history=history, floor=floor), history, floor, ())
        self.is_as(Log(floor=4), ROOT, 4, ())
        self.is_as(Log(history=FORKS), FORKS, 0, ())

    def test_refusals(self):
        for history in wrong_histories():
            self.refused(NoHistory, {}, Log, history=history)
            self.refused(NoHistory, {}, Log, floor=-1, history=history)
        for floor in wrong_places():
            self.refused(NoPlace, {"place": floor}, Log, floor=floor)
            self.refused(NoPlace, {"place": floor}, Log, history=FORKS, floor=floor)

    def test_logs_are_apart(self):
        one, other = Log(), Log()
        one.put(row_of(1))
        self.is_as(other, ROOT, 0, ())


class RowsTest(LogCase):

    def test_put(self):
        log = Log()
        self.same(log.put(row_of(1)), 1)
        self.same(log.put(row_of(2)), 2)
        self.is_as(log, ROOT, 0, rows_of(1, 2))
        log = Log(history=FORKS, floor=7)
        self.same(log.put(row_of(8)), 8)
        self.is_as(log, FORKS, 7, rows_of(8, 8))

    def test_put_behind_the_last_place(self):
        log = Log(floor=LAST)
        self.same(log.put(row_of(1)), LAST + 1)
        self.same(log.row(LAST + 1), row_of(1))
        self.same(log.rows(LAST + 1), ())
        self.same(log.cut_back(LAST), ((0, LAST + 1, row_of(1)),))

    def test_put_refused(self):
        log = written(ROOT, 2, 5)
        for thing in odd_things() + [["set", "a", 1], ("set", "A", 1), ("set", "a", True), ("cut", ""), ("cut", "a", 1),
                                     ("set", "a", 10 ** 18 + 1), [("cut", "a")], (("cut", "a"),)]:
            self.unchanged(log, NoRow, {}, log.put, thing)

    def test_row(self):
        log = written(FORKS, 5, 9)
        for place in range(6, 10):
            self.same(log.row(place), row_of(place))
        for place in range(1, 6):
            self.unchanged(log, TooOld, {"since": 6}, log.row, place)
        for place in not_numbers() + [-1, 0, 10, 11, LAST, 10 ** 59, -10 ** 59]:
            self.unchanged(log, NoPlace, {"place": place}, log.row, place)

    def test_the_first_row(self):
        log = written(ROOT, 0, 3)
        self.same([log.row(place) for place in (1, 2, 3)], list(rows_of(1, 3)))

    def test_row_without_rows(self):
        self.refused(NoPlace, {"place": 0}, Log().row, 0)
        self.refused(NoPlace, {"place": 1}, Log().row, 1)
        self.refused(TooOld, {"since": 5}, Log(floor=4).row, 4)
        self.refused(NoPlace, {"place": 5}, Log(floor=4).row, 5)
        self.refused(NoPlace, {"place": 0}, Log(floor=4).row, 0)

    def test_rows(self):
        log = written(FORKS, 3, 9)
        for place in range(3, 10):
            self.same(log.rows(place), rows_of(place + 1, 9))
            self.same(log.rows(place, many=None), rows_of(place + 1, 9))
            for many in (0, 1, 2, 5, 6, 7, 10 ** 59):
                self.same(log.rows(place, many=many), rows_of(place + 1, 9)[:many])

    def test_rows_refused(self):
        log = written(FORKS, 3, 9)
        for place in not_numbers() + [-1, 10, 10 ** 59, -10 ** 59]:
            self.unchanged(log, NoPlace, {"place": place}, log.rows, place)
        for place in range(3):
            self.unchanged(log, TooOld, {"since": 3}, log.rows, place)
        for many in not_numbers() + [-1, -10 ** 59]:
            if many is not None:
                self.unchanged(log, NoCount, {"what": "many"}, log.rows, 3, many=many)
        self.unchanged(log, NoPlace, {"place": 10}, log.rows, 10, many=-1)
        self.unchanged(log, TooOld, {"since": 3}, log.rows, 2, many=-1)
        self.unchanged(log, NoCount, {"what": "many"}, log.rows, 9, many=True)


class AddRowsTest(LogCase):

    def test_new_ones(self):
        log = Log()
        self.same(log.add_rows(ROOT, 0, rows_of(1, 3)), 3)
        self.same(log.add_rows(ROOT, 3, rows_of(4, 4)), 1)
        self.is_as(log, ROOT, 0, rows_of(1, 4))

    def test_known_ones(self):
        log = written(ROOT, 0, 5)
        for place, last in ((0, 5), (0, 4), (0, 0), (2, 5), (4, 5), (5, 5), (1, 2)):
            self.same(log.add_rows(ROOT, place, rows_of(place + 1, last)), 0)
            self.is_as(log, ROOT, 0, rows_of(1, 5))

    def test_both(self):
        for place in range(6):
            for last in (6, 7, 9):
                log = written(ROOT, 0, 5)
                self.same(log.add_rows(ROOT, place, rows_of(place + 1, last)), last - 5)
                self.is_as(log, ROOT, 0, rows_of(1, last))

    def test_from_ahead_of_the_floor(self):
        log = written(ROOT, 4, 5)
        self.same(log.add_rows(ROOT, 2, rows_of(3, 7)), 2)
        self.is_as(log, ROOT, 4, rows_of(5, 7))
        self.same(log.add_rows(ROOT, 2, rows_of(3, 3)), 0)
        self.is_as(log, ROOT, 4, rows_of(5, 7))

    def test_a_list_of_rows_may_be_changed_behind_the_call(self):
        log = Log()
        rows = list(rows_of(1, 3))
        self.same(log.add_rows(ROOT, 0, rows), 3)
        self.same(rows, list(rows_of(1, 3)))
        rows.clear()
        self.is_as(log, ROOT, 0, rows_of(1, 3))

    def test_a_history_whose_line_is_greater(self):
        for rows in (rows_of(1, 4), rows_of(1, 3), rows_of(1, 2), ()):
            log = written(ROOT, 0, 3)
            self.same(log.add_rows(((0, 0), (4, 3)), 0, rows), max(0, len(rows) - 3))
            self.is_as(log, ((0, 0), (4, 3)), 0, rows_of(1, max(3, len(rows))))

        log = written(((0, 0), (4, 3)), 0, 3)
        self.same(log.add_rows(((0, 0), (4, 3), (9, 3)), 3, ()), 0)
        self.is_as(log, ((0, 0), (4, 3), (9, 3)), 0, rows_of(1, 3))

    def test_a_history_whose_line_is_not_greater(self):
        own = ((0, 0), (4, 3))
        for history in (ROOT, ((0, 0), (3, 3)), ((0, 0), (3, 9)), own, ((0, 0), (1, 2), (4, 3))):
            log = written(own, 0, 2)
            self.same(log.add_rows(history, 2, rows_of(3, 3)), 1)
            self.is_as(log, own, 0, rows_of(1, 3))

    def test_gap(self):
        log = written(ROOT, 2, 5)
        for place in (6, 7, LAST, 10 ** 59):
            for rows in ((), rows_of(7, 9)):
                self.unchanged(log, Gap, {"place": 5}, log.add_rows, ((0, 0), (4, 5)), place, rows)
        self.refused(Gap, {"place": 0}, Log().add_rows, ROOT, 1, ())
        self.refused(Gap, {"place": 3}, Log(floor=3).add_rows, ROOT, 4, ())

    def test_what_is_no_place(self):
        log = written(ROOT, 2, 5)
        for place in not_numbers() + [-1, -10 ** 59]:
            self.unchanged(log, Gap, {"place": 5}, log.add_rows, ((0, 0), (4, 5)), place, rows_of(1, 9))


class CutBackTest(LogCase):

    def test_to_the_end_and_to_the_floor(self):
        log = written(FORKS, 2, 9)
        self.same(log.cut_back(9), ())
        self.is_as(log, FORKS, 2, rows_of(3, 9))
        told = log.cut_back(2)
        self.same(told, tuple((line, place, row_of(place)) for line, place in
                              ((2, 3), (6, 4), (6, 5), (6, 6), (6, 7), (9, 8), (9, 9))))
        self.is_as(log, FORKS, 2, ())
        self.same(log.cut_back(2), ())

    def test_over_forks(self):
        log = written(FORKS, 0, 9)
        self.same(log.cut_back(7), ((9, 8, row_of(8)), (9, 9, row_of(9))))
        self.same(log.cut_back(6), ((6, 7, row_of(7)),))
        self.same(log.cut_back(2), tuple((line, place, row_of(place)) for line, place in
                                         ((2, 3), (6, 4), (6, 5), (6, 6))))
        self.is_as(log, FORKS, 0, rows_of(1, 2))
        self.same(log.cut_back(0), ((2, 1, row_of(1)), (2, 2, row_of(2))))

    def test_rows_may_be_added_again(self):
        log = written(FORKS, 2, 9)
        log.cut_back(8)
        self.same(log.put(("cut", "new")), 9)
        self.is_as(log, FORKS, 2, rows_of(3, 8) + (("cut", "new"),))

    def test_refusals(self):
        log = written(FORKS, 2, 9)
        for place in not_numbers() + [-1, 10, LAST, 10 ** 59]:
            self.unchanged(log, NoPlace, {"place": place}, log.cut_back, place)
        for place in (0, 1):
            self.unchanged(log, TooOld, {"since": 2}, log.cut_back, place)


class ForkTest(LogCase):

    def test_at_the_end(self):
        log = written(ROOT, 0, 5)
        self.assertIsNone(log.fork(3))
        self.is_as(log, ((0, 0), (3, 5)), 0, rows_of(1, 5))
        log.fork(4)
        self.is_as(log, ((0, 0), (3, 5), (4, 5)), 0, rows_of(1, 5))
        log.put(row_of(6))
        log.fork(10 ** 9)
        self.is_as(log, ((0, 0), (3, 5), (4, 5), (10 ** 9, 6)), 0, rows_of(1, 6))

    def test_of_no_rows(self):
        log = Log()
        log.fork(1)
        self.is_as(log, ((0, 0), (1, 0)), 0, ())
        log = Log(history=FORKS, floor=7)
        log.fork(10)
        self.is_as(log, (*FORKS, (10, 7)), 7, ())

    def test_pairs_behind_the_end_are_left_out(self):
        for end, left in ((8, 4), (7, 4), (6, 3), (3, 3), (2, 1), (0, 1)):
            log = written(FORKS, 0, end)
            log.fork(20)
            self.is_as(log, (*FORKS[:left], (20, end)), 0, rows_of(1, end))

    def test_lines_that_are_left_out_bind_no_more(self):
        log = written(FORKS, 0, 6)
        self.unchanged(log, NoCount, {"what": "line"}, log.fork, 6)
        log.fork(7)
        self.is_as(log, ((2, 0), (5, 3), (6, 3), (7, 6)), 0, rows_of(1, 6))
        log = written(FORKS, 0, 2)
        log.fork(3)
        self.is_as(log, ((2, 0), (3, 2)), 0, rows_of(1, 2))

    def test_sixty_pairs(self):
        log = Log(history=long_history(60))
        self.unchanged(log, Full, {"what": "lines"}, log.fork, 60)
        self.unchanged(log, NoCount, {"what": "line"}, log.fork, 59)
        log = Log(history=long_history(59))
        log.fork(59)
        self.is_as(log, long_history(60), 0, ())
        log = written((*long_history(59), (70, 4)), 0, 3)
        log.fork(60)
        self.is_as(log, (*long_history(59), (60, 3)), 0, rows_of(1, 3))

    def test_lines_refused(self):
        log = written(FORKS, 0, 8)
        for line in not_numbers() + [-1, 0, 8, 9, 10 ** 9 + 1, 10 ** 59]:
            self.unchanged(log, NoCount, {"what": "line"}, log.fork, line)


class AdoptAndTrimTest(LogCase):

    def test_adopt(self):
        log = written(ROOT, 1, 5)
        for history in (((0, 0), (4, 5)), ROOT, ((0, 0), (3, 9), (7, LAST))):
            self.assertIsNone(log.adopt(history))
            self.is_as(log, history, 1, rows_of(2, 5))

    def test_trim(self):
        log = written(FORKS, 1, 9)
        for place in (1, 2, 2, 7, 9, 9):
            self.assertIsNone(log.trim(place))
            self.is_as(log, FORKS, place, rows_of(place + 1, 9))
        self.same(log.put(row_of(10)), 10)
        self.same(log.row(10), row_of(10))

    def test_trim_refused(self):
        log = written(FORKS, 2, 9)
        for place in not_numbers() + [-1, 0, 1, 10, LAST, 10 ** 59]:
            self.unchanged(log, NoPlace, {"place": place}, log.trim, place)


class EqualityTest(LogCase):

    def test_equal(self):
        self.assertEqual(Log(), Log(history=ROOT, floor=0))
        self.assertEqual(written(FORKS, 2, 9), written(FORKS, 2, 9))
        longer, trimmed = written(FORKS, 2, 12), written(FORKS, 0, 9)
        longer.cut_back(9)
        trimmed.trim(2)
        self.assertEqual(longer, written(FORKS, 2, 9))
        self.assertEqual(trimmed, written(FORKS, 2, 9))
        self.assertFalse(trimmed != written(FORKS, 2, 9))

    def test_unequal(self):
        log = written(FORKS, 2, 9)
        changed = written(FORKS, 2, 8)
        changed.put(("cut", "other"))
        for other in (Log(), written(FORKS, 2, 8), written(FORKS, 2, 10), written(FORKS, 3, 9), written(FORKS, 1, 9),
                      written((*FORKS, (10, 9)), 2, 9), written(ROOT, 2, 9), changed):
            self.assertNotEqual(log, other)
            self.assertNotEqual(other, log)
        self.assertNotEqual(Log(floor=1), Log(floor=2))

    def test_other_things(self):
        log = written(FORKS, 2, 9)
        for thing in odd_things() + [FORKS, (FORKS, 2), list(log.rows(2)), log.rows(2)]:
            self.assertIs(Log.__eq__(log, thing), False)


if __name__ == "__main__":
    unittest.main()

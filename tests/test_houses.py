"""Promise 22: what a house is at the beginning, and the lines that it may begin."""

import unittest

from laterline.books import Book
from laterline.houses import House, first_houses, may_begin, next_line
from laterline.lines import ROOT
from laterline.logs import Log
from laterline.slots import Slots
from laterline.states import State
from tests.helpers import Case, odd_things


class BeginningTest(Case):

    def test_what_a_house_is_at_the_beginning(self):
        for many in range(1, 9):
            houses = first_houses(many, 40)
            self.same([house.number for house in houses], list(range(many)))
            for house in houses:
                self.assertEqual(house.own_log, Log())
                self.same(house.own_log.history(), ROOT)
                self.same(house.own_log.line(), 0)
                self.same(len(house.own_log), 0)
                self.assertEqual(house.state, State())
                self.same((house.state.oldest(), house.state.moment(), house.state.table()), (0, 0, ()))
                self.assertEqual(house.own_slots, Slots(40))
                self.assertEqual(house.book, Book())
                self.same(house.promise, 0)
                self.assertIsNone(house.followed)
                self.assertIsNone(house.followed_under)

    def test_house_0_leads(self):
        for many in range(1, 9):
            self.same([house.leads for house in first_houses(many, 1)], [True] + [False] * (many - 1))

    def test_the_room_of_the_slots(self):
        for room in (1, 40, 400):
            self.assertEqual(first_houses(2, room)[1].own_slots, Slots(room))

    def test_houses_are_apart(self):
        one, other = first_houses(2, 40)
        one.own_log.put(("cut", "a"))
        one.state.do(("set", "a", 1))
        one.own_slots.hold(1, 2)
        one.book.note((1, 0, 3, 3))
        self.assertEqual(other.own_log, Log())
        self.assertEqual(other.state, State())
        self.assertEqual(other.own_slots, Slots(40))
        self.assertEqual(other.book, Book())


class EqualTest(Case):

    def test_houses_of_two_beginnings(self):
        for many in (1, 3, 8):
            self.assertTrue(first_houses(many, 40) == first_houses(many, 40))

    def test_unlike(self):
        one, other = first_houses(3, 40)[1:]
        self.assertFalse(one == other)
        self.assertFalse(one == first_houses(3, 41)[1])
        other.number = one.number
        self.assertTrue(one == other)

    def test_other_things(self):
        house = first_houses(1, 40)[0]
        for thing in odd_things() + [0, house.own_log, house.state]:
            self.assertIs(House.__eq__(house, thing), False)


class LinesTest(Case):

    def test_lines_that_a_house_may_begin(self):
        self.same([line for line in range(12) if may_begin(2, 5, line)], [2, 7])
        self.same([line for line in range(5) if may_begin(0, 1, line)], [0, 1, 2, 3, 4])
        self.same([line for line in range(24) if may_begin(7, 8, line)], [7, 15, 23])

    def test_each_line_is_one_houses(self):
        for many in range(1, 9):
            for line in (*range(100), 10 ** 9 - 1, 10 ** 9):
                self.same([house for house in range(many) if may_begin(house, many, line)], [line % many])

    def test_the_next_line(self):
        for many in range(1, 9):
            for house in range(many):
                for above in range(50):
                    lines = [line for line in range(above + 1, above + many + 1) if may_begin(house, many, line)]
                    self.same([next_line(house, many, above)], lines)


if __name__ == "__main__":
    unittest.main()

"""Promises 2, 3, 15 and 16: slots, and what may be cut."""

import copy
import unittest

from laterline.errors import NoCount, NoHouse, NoPlace
from laterline.slots import Slots, cut_of
from tests.helpers import Case, not_numbers, odd_things, wrong_places

WRONG_ROOMS = [-1, 0, 401, 10 ** 59, -10 ** 59]


def filled(room, *slots):
    made = Slots(room)
    for house, place in slots:
        made.hold(house, place)
    return made


class HoldingTest(Case):

    def test_no_slots_at_first(self):
        slots = Slots(40)
        self.same(slots.held(), ())
        self.same(len(slots), 0)

    def test_rooms(self):
        for room in (1, 2, 40, 399, 400):
            self.same(Slots(room).held(), ())
        for room in not_numbers() + WRONG_ROOMS:
            self.refused(NoCount, {"what": "room"}, Slots, room)

    def test_held_rises(self):
        slots = filled(40, (5, 7), (0, 9), (7, 0), (3, 10 ** 6))
        self.same(slots.held(), ((0, 9), (3, 10 ** 6), (5, 7), (7, 0)))
        self.same(len(slots), 4)

    def test_hold_to_greater_and_lesser_places(self):
        slots = Slots(40)
        for place, stands in ((5, 5), (4, 5), (0, 5), (5, 5), (6, 6), (10 ** 6, 10 ** 6), (9, 10 ** 6)):
            self.assertIsNone(slots.hold(2, place))
            self.same(slots.held(), ((2, stands),))

    def test_hold_at_0_stands(self):
        self.same(filled(1, (0, 0)).held(), ((0, 0),))

    def test_anew_whatever_it_was(self):
        slots = filled(40, (1, 3))
        for place in (9, 2, 0, 10 ** 6, 4):
            self.assertIsNone(slots.anew(2, place))
            self.same(slots.held(), ((1, 3), (2, place)))

    def test_free(self):
        slots = filled(40, (1, 3), (2, 5))
        self.assertIsNone(slots.free(1))
        self.same(slots.held(), ((2, 5),))
        for house in (1, 7, 0):
            self.assertIsNone(slots.free(house))
            self.same(slots.held(), ((2, 5),))
        slots.hold(2, 6)
        slots.free(2)
        slots.hold(2, 1)
        self.same(slots.held(), ((2, 1),))

    def test_refusals_leave_all_as_it_was(self):
        slots = filled(40, (1, 3))
        for call in (slots.hold, slots.anew):
            for house in not_numbers() + [-1, 8, 10 ** 59]:
                self.refused(NoHouse, {"house": house}, call, house, 1)
                self.refused(NoHouse, {"house": house}, call, house, -1)
            for place in wrong_places():
                self.refused(NoPlace, {"place": place}, call, 1, place)
        for house in not_numbers() + [-1, 8, 10 ** 59]:
            self.refused(NoHouse, {"house": house}, slots.free, house)
        self.same(slots.held(), ((1, 3),))


class CuttingTest(Case):

    def check(self, room, slots, end, applied, answer, left):
        """The same is told with an object and without, whatever the order of the slots."""
        for order in (slots, slots[::-1], tuple(sorted(slots))):
            self.same(cut_of(room, order, end, applied), answer)
            made = filled(room, *order)
            self.same(made.cut_for(end, applied), answer)
            self.same(made.held(), left)
            self.same(len(made), len(left))

    def test_no_slots(self):
        self.check(40, (), 0, 0, (0, ()), ())
        self.check(40, (), 9, 9, (9, ()), ())
        self.check(40, (), 9, 4, (4, ()), ())
        self.check(1, (), 10 ** 6, 10 ** 6, (10 ** 6, ()), ())

    def test_place_and_room_around_the_end(self):
        self.check(10, ((3, 19),), 30, 30, (30, (3,)), ())
        self.check(10, ((3, 20),), 30, 30, (20, ()), ((3, 20),))
        self.check(10, ((3, 21),), 30, 30, (21, ()), ((3, 21),))

    def test_rooms_at_both_bounds(self):
        self.check(1, ((0, 8),), 10, 10, (10, (0,)), ())
        self.check(1, ((0, 9),), 10, 10, (9, ()), ((0, 9),))
        self.check(400, ((0, 599),), 1000, 1000, (1000, (0,)), ())
        self.check(400, ((0, 600),), 1000, 1000, (600, ()), ((0, 600),))

    def test_applied_rows_are_a_bound(self):
        self.check(10, ((3, 25),), 30, 22, (22, ()), ((3, 25),))
        self.check(10, ((3, 19),), 30, 0, (0, (3,)), ())

    def test_slots_behind_the_end(self):
        self.check(10, ((3, 99),), 30, 30, (30, ()), ((3, 99),))
        self.check(10, ((3, 10 ** 6), (4, 25)), 30, 30, (25, ()), ((3, 10 ** 6), (4, 25)))

    def test_several(self):
        slots = ((6, 3), (2, 70), (7, 60), (0, 59), (4, 0), (1, 90))
        self.check(40, slots, 100, 95, (60, (0, 4, 6)), ((1, 90), (2, 70), (7, 60)))
        self.check(1, slots, 100, 95, (95, (0, 1, 2, 4, 6, 7)), ())
        self.check(400, slots, 100, 95, (0, ()), tuple(sorted(slots)))

    def test_a_broken_slot_is_gone(self):
        slots = filled(5, (1, 2), (2, 8))
        self.same(slots.cut_for(10, 10), (8, (1,)))
        self.same(slots.cut_for(10, 10), (8, ()))
        slots.hold(1, 1)
        self.same(slots.held(), ((1, 1), (2, 8)))

    def test_cut_of_changes_nothing(self):
        slots = ((6, 3), (2, 70))
        cut_of(5, slots, 100, 95)
        self.same(slots, ((6, 3), (2, 70)))

    def test_refusals(self):
        made = filled(5, (1, 2), (2, 8))
        for call in (made.cut_for, lambda end, applied: cut_of(5, ((1, 2), (2, 8)), end, applied)):
            for end in wrong_places():
                self.refused(NoPlace, {"place": end}, call, end, 0)
                self.refused(NoPlace, {"place": end}, call, end, -2)
            for applied in wrong_places() + [101, 10 ** 6]:
                self.refused(NoPlace, {"place": applied}, call, 100, applied)
            self.refused(NoPlace, {"place": 1}, call, 0, 1)
        self.same(made.held(), ((1, 2), (2, 8)))
        for room in not_numbers() + WRONG_ROOMS:
            self.refused(NoCount, {"what": "room"}, cut_of, room, (), 0, 0)
            self.refused(NoCount, {"what": "room"}, cut_of, room, (), -1, -1)


class EqualityTest(Case):

    def test_equal(self):
        self.assertEqual(Slots(4), Slots(4))
        self.assertEqual(filled(4, (1, 2), (5, 6)), filled(4, (5, 6), (1, 1), (1, 2)))
        freed = filled(4, (1, 2), (5, 6))
        freed.free(5)
        self.assertEqual(freed, filled(4, (1, 2)))
        self.assertFalse(freed != filled(4, (1, 2)))
        other = copy.deepcopy(freed)
        other.hold(3, 0)
        self.assertNotEqual(freed, other)

    def test_unequal(self):
        slots = filled(4, (1, 2), (5, 6))
        for other in (Slots(4), filled(5, (1, 2), (5, 6)), filled(4, (1, 2), (5, 7)), filled(4, (1, 2), (4, 6)),
                      filled(4, (1, 2)), filled(4, (1, 2), (5, 6), (7, 0))):
            self.assertNotEqual(slots, other)
            self.assertNotEqual(other, slots)

    def test_other_things(self):
        slots = filled(4, (1, 2))
        for thing in odd_things() + [((1, 2),), {1: 2}, 4]:
            self.assertIs(Slots.__eq__(slots, thing), False)


if __name__ == "__main__":
    unittest.main()

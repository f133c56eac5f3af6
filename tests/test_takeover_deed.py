"""Promises 2, 3, 27 and 28: takeover, within the rule and forced."""

import unittest

from laterline.errors import Avoided, Behind, Full, Leads, NoHouse
from laterline.takeovers import right_lines, right_takeover
from laterline.world import World
from tests.helpers import odd_things
from tests.worlds import WorldCase, catch_up, exchange, led, parted, row_of, write_rows, wrong_houses


def told(line, first, last):
    return tuple((line, place, row_of(place)) for place in range(first, last + 1))


class PaperTest(WorldCase):

    def test_with_all_asked(self):
        world = led(3, 5, followers=(1, 2))
        self.same(world.takeover(1, (0, 2)), (1, 1, 5, ((0, 0, 5), (1, 0, 5), (2, 0, 5)), ()))
        self.same(world.trail()[-1], ("takeover", 1, (0, 2), False))

    def test_the_house_counts_as_asked_whether_it_is_told_or_not(self):
        for asked in ((0, 1, 2), (2, 0, 1), (0, 2), (2, 0)):
            world = led(3, 5, followers=(1, 2))
            self.same(world.takeover(1, asked), (1, 1, 5, ((0, 0, 5), (1, 0, 5), (2, 0, 5)), ()))
            self.same(world.trail()[-1], ("takeover", 1, asked, False))

    def test_without_rows(self):
        world = World(3)
        self.same(world.takeover(2, (0, 1)), (2, 2, 0, ((0, -1, 0), (1, -1, 0), (2, -1, 0)), ()))
        self.same(world.history(2), ((0, 0), (2, 0)))

    def test_standings_of_several_lines(self):
        world = parted(3)
        write_rows(world, 1, 1)
        paper = world.takeover(2, (0,), forced=True)
        self.same(paper, (2, 2, 8, ((0, 0, 8), (2, 1, 8)), told(0, 6, 8)))

    def test_lost_rows_rise_by_line_and_place_each_once(self):
        world = led(5, 5, followers=(1, 2, 3, 4))
        write_rows(world, 0, 2)
        catch_up(world, 2)
        world.takeover(1, (4,), forced=True)
        write_rows(world, 1, 4)
        world.takeover(3, (), forced=True)
        write_rows(world, 3, 1)
        world.follow(4, 3)
        catch_up(world, 4)
        paper = world.takeover(4, (0, 1, 2, 3))
        self.same(paper[:4], (4, 4, 6, ((0, 0, 7), (1, 1, 9), (2, 0, 7), (3, 3, 6), (4, 3, 6))))
        self.same(paper[4], told(0, 6, 7) + told(1, 6, 9))

    def test_only_of_those_asked(self):
        world = parted(3)
        self.same(world.takeover(2, (1,), forced=True)[4], ())

    def test_lost_where_the_house_is_a_beginning_of_another_one(self):
        world = led(3, 5)
        world.follow(1, 0)
        exchange(world, 1)
        write_rows(world, 0, 2)
        self.same(world.takeover(1, (0,), forced=True), (1, 1, 5, ((0, 0, 7), (1, 0, 5)), told(0, 6, 7)))

    def test_rows_that_are_cut_off_are_not_told(self):
        world = parted(3)
        world.free(0, 1)
        world.free(0, 2)
        world.forget(0, 3)
        world.trim(0)
        write_rows(world, 0, 1)
        self.same(world.takeover(2, (0,), forced=True)[4], told(0, 9, 9))

    def test_rows_cut_off_by_one_and_kept_by_another(self):
        world = led(4, 5, followers=(1, 2, 3))
        write_rows(world, 0, 2)
        catch_up(world, 2)
        world.takeover(1, (3,), forced=True)
        write_rows(world, 1, 3)
        for house in (1, 2, 3):
            world.free(0, house)
        world.trim(0)
        self.same(world.log_rows(0), ())
        world.follow(3, 1)
        catch_up(world, 3)
        self.same(world.takeover(3, (0, 1, 2))[4], told(0, 6, 7))

    def test_by_a_house_that_was_renewed(self):
        world = parted(3)
        world.renew(0, 1)
        self.same(world.takeover(0, (1, 2)), (0, 3, 8, ((0, 1, 8), (1, 1, 8), (2, 1, 8)), ()))
        self.same(world.history(0), ((0, 0), (1, 5), (3, 8)))
        self.same(world.log_rows(0), ())

    def test_by_a_house_that_was_cut_back(self):
        world = parted(3)
        world.rejoin(0, 1)
        self.same(world.history(0), ((0, 0), (1, 5)))
        world.takeover(2, (0, 1))
        world.rejoin(0, 2)
        self.same(world.history(0), ((0, 0), (1, 5), (2, 8)))
        # The lines 1 and 2 begin where house 0 has no row yet or at its end, so only line 1 stays.
        paper = world.takeover(0, (1,), forced=True)
        self.same(paper, (0, 3, 5, ((0, 0, 5), (1, 1, 8)), told(1, 6, 8)))
        self.same(world.history(0), ((0, 0), (1, 5), (3, 5)))
        self.same(world.lines()[-1], (3, 0, 1, 5, True))
        self.assertIs(right_lines(3, world.lines()), True)


class NewLineTest(WorldCase):

    def test_the_least_line_of_the_house_above_all_promises(self):
        for many in range(2, 9):
            world = World(many)
            for house in range(1, many):
                self.same(world.takeover(house, tuple(range(many)))[1], house)
            self.same(world.takeover(0, tuple(range(many)))[1], many)
            self.same(world.takeover(many - 1, (), forced=True)[1], 2 * many - 1)

    def test_one_house(self):
        world = World(1)
        self.unchanged(world, Leads, {}, world.takeover, 0, ())

    def test_above_the_promises_of_those_asked_alone(self):
        world = led(3, 1)
        world.takeover(2, (), forced=True)
        self.same(world.takeover(1, (0,), forced=True)[1], 1)
        world.takeover(0, (1,), forced=True)
        self.same([world.marks(house)[4] for house in range(3)], [3, 3, 2])
        self.same(world.takeover(1, (2,), forced=True)[1], 4)

    def test_60_lines_and_one_more(self):
        world = World(2)
        for number in range(59):
            house = 1 - number % 2
            world.takeover(house, (1 - house,))
            world.rejoin(1 - house, house)
        self.same(len(world.lines()), 60)
        self.same(len(world.history(1)), 60)
        self.unchanged(world, Full, {"what": "lines"}, world.takeover, 0, (1,))
        self.unchanged(world, Full, {"what": "lines"}, world.takeover, 0, (), forced=True)
        self.unchanged(world, Leads, {}, world.takeover, 1, (0,))
        self.unchanged(world, NoHouse, {"house": 2}, world.takeover, 0, (2,))
        self.assertIs(right_lines(2, world.lines()), True)


class BehindItTest(WorldCase):

    def test_the_house_leads_and_has_applied_all(self):
        world = led(2, 5)
        world.follow(1, 0)
        exchange(world, 1)
        world.apply(1, many=1)
        world.takeover(1, (0,))
        self.same(world.marks(1), (0, 5, 5, 0, 1, None, True))
        self.same(world.table(1), world.table(0))
        self.same(world.write(1, row_of(6)), (1, 6))

    def test_those_asked_promise_and_neither_lead_nor_follow(self):
        world = led(4, 5, followers=(1, 2, 3))
        world.follow(3, 2)
        world.takeover(1, (0, 3), forced=True)
        self.same(world.marks(0), (0, 5, 5, 0, 1, None, False))
        self.same(world.marks(3), (0, 5, 5, 0, 1, None, False))
        self.same(world.marks(2), (0, 5, 5, 0, 0, 0, False))

    def test_those_that_follow_the_house_go_on_under_their_pass(self):
        world = led(4, 5, followers=(1, 2, 3))
        world.follow(2, 1)
        world.follow(3, 1)
        want = world.ask(2)
        world.takeover(1, (0, 2), forced=True)
        self.same(world.marks(2), (0, 5, 5, 0, 1, 1, False))
        self.same(world.marks(3), (0, 5, 5, 0, 0, 1, False))
        self.same(world.give(want)[0], "answered")
        self.same(exchange(world, 3), ("more", 0))
        self.same(world.marks(3)[4], 1)

    def test_those_not_asked_are_left_alone(self):
        world = led(4, 5, followers=(1, 2))
        world.takeover(1, (2,), forced=True)
        self.same(world.marks(0), (0, 5, 5, 0, 0, None, True))
        self.same(world.marks(3), (0, 0, 0, 0, 0, None, False))

    def test_logs_histories_slots_and_books_of_the_others_stay(self):
        world = led(3, 5, followers=(1, 2))
        seen = [(world.log_rows(house), world.history(house), world.slots(house), world.said(house))
                for house in (0, 2)]
        world.takeover(1, (0, 2))
        self.same(seen, [(world.log_rows(house), world.history(house), world.slots(house), world.said(house))
                         for house in (0, 2)])
        self.same(world.history(1), ((0, 0), (1, 5)))

    def test_it_counts_no_pass(self):
        world = led(3, 5, followers=(1, 2))
        world.takeover(1, (0, 2))
        self.same(world.follow(0, 1), 3)


class RefusedTest(WorldCase):

    def test_avoided(self):
        for rule, asked, houses in ((("written",), (), (0,)), (("written",), (0, 2), (3,)),
                                    (("held", 1), (0,), (2, 3)), (("held", 2), (), (0, 2, 3)),
                                    (("applied", 1), (1, 3), (0, 2))):
            world = led(4, 5, followers=(1, 2, 3), rule=rule)
            self.unchanged(world, Avoided, {"houses": houses}, world.takeover, 1, asked)

    def test_just_enough_are_asked(self):
        for rule, asked in ((("written",), (0, 2, 3)), (("held", 1), (0, 3)), (("held", 2), (3,)), (("held", 3), ()),
                            (("held", 7), ()), (("applied", 2), (0,))):
            world = led(4, 5, followers=(1, 2, 3), rule=rule)
            paper = world.takeover(1, asked)
            self.assertIs(right_takeover(4, rule, paper), True)
            self.same(world.lines()[-1], (1, 1, 0, 5, False))

    def test_behind(self):
        world = led(4, 5, followers=(1, 2, 3))
        write_rows(world, 0, 1)
        self.unchanged(world, Behind, {"house": 0}, world.takeover, 1, (0, 2, 3))
        catch_up(world, 3)
        self.unchanged(world, Behind, {"house": 0}, world.takeover, 1, (3, 2, 0))
        world = led(4, 5, followers=(1, 2, 3), rule=("held", 1))
        write_rows(world, 0, 1)
        catch_up(world, 3)
        self.unchanged(world, Behind, {"house": 3}, world.takeover, 1, (3, 2))

    def test_behind_by_the_line_of_the_last_row(self):
        world = parted(1, rule=("held", 2))
        write_rows(world, 0, 3)
        # House 0 has more rows, but house 2's last row is of a greater line.
        self.same(world.takeover(2, (0,))[3], ((0, 0, 9), (2, 1, 6)))

    def test_behind_a_greater_line_that_is_shorter(self):
        world = led(4, 5, followers=(1, 2, 3), rule=("held", 3))
        world.takeover(1, ())
        write_rows(world, 1, 1)
        write_rows(world, 0, 5)
        catch_up(world, 2)
        self.unchanged(world, Behind, {"house": 1}, world.takeover, 2, (0, 1, 3))

    def test_avoided_goes_ahead_of_behind(self):
        world = led(4, 5, followers=(1, 2, 3))
        write_rows(world, 0, 1)
        self.unchanged(world, Avoided, {"houses": (2,)}, world.takeover, 1, (0, 3))

    def test_leads_goes_ahead_of_avoided(self):
        world = led(4, 5)
        self.unchanged(world, Leads, {}, world.takeover, 0, ())
        self.unchanged(world, Leads, {}, world.takeover, 0, (), forced=True)

    def test_forced_is_done_all_the_same(self):
        world = led(4, 5, followers=(1, 2, 3))
        write_rows(world, 0, 1)
        self.same(world.takeover(1, (0,), forced=True), (1, 1, 5, ((0, 0, 6), (1, 0, 5)), told(0, 6, 6)))
        self.same(world.lines()[-1], (1, 1, 0, 5, True))
        self.same(world.trail()[-1], ("takeover", 1, (0,), True))

    def test_no_house_of_what_stands_there(self):
        world = led(4, 5)
        for house in wrong_houses(4):
            self.unchanged(world, NoHouse, {"house": house}, world.takeover, 1, (0, 2, house))
            self.unchanged(world, NoHouse, {"house": house}, world.takeover, 1, (house, 9))
            self.unchanged(world, NoHouse, {"house": house}, world.takeover, 0, (house,), forced=True)

    def test_no_house_of_what_stands_twice(self):
        world = led(4, 5)
        for asked, house in (((0, 0), 0), ((1, 1), 1), ((0, 2, 3, 2, 0), 2), ((3, 0, 3, 9), 3), ((3, 9, 3), 9)):
            self.unchanged(world, NoHouse, {"house": house}, world.takeover, 1, asked)

    def test_asked_that_is_no_tuple(self):
        world = led(4, 5)
        for asked in [thing for thing in odd_things() if not isinstance(thing, tuple)] + [[0, 2, 3]]:
            self.unchanged(world, NoHouse, {"house": asked}, world.takeover, 1, asked)


if __name__ == "__main__":
    unittest.main()

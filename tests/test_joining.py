"""Promises 2, 3 and 30 to 32: rejoin, renew, what becomes of those that follow, trim, free and forget."""

import unittest

from laterline.errors import Elder, NoPlace, Ring, Short, TooEarly, TooOld
from laterline.world import World
from tests.helpers import wrong_places
from tests.worlds import WorldCase, catch_up, exchange, led, parted, row_of, write_rows


def told(line, first, last):
    return tuple((line, place, row_of(place)) for place in range(first, last + 1))


class RejoinTest(WorldCase):

    def test_what_is_given_up(self):
        world = parted(3)
        self.same(world.log_rows(0), told(0, 1, 8))
        self.same(world.rejoin(0, 1), (5, told(0, 6, 8)))
        self.same(world.log_rows(0), told(0, 1, 5))
        self.same(world.history(0), ((0, 0), (1, 5)))
        self.same(world.marks(0), (0, 5, 5, 0, 1, 1, False))
        self.same(world.table(0), ())
        self.same(world.slots(1), ((0, 5), (2, 8)))
        self.same(world.trail()[-1], ("rejoin", 0, 1))

    def test_it_goes_on_with_the_other_one(self):
        world = parted(3)
        world.rejoin(0, 1)
        catch_up(world, 0)
        self.same(world.log_rows(0), world.log_rows(1))
        self.same(world.table(0), world.table(1))

    def test_under_a_new_pass(self):
        world = parted(3)
        world.rejoin(0, 1)
        self.same(world.letter(world.ask(0)), ("want", 0, 1, 4, 1, 5, 5, world.said(0)))
        world.rejoin(0, 1)
        self.same(world.letter(world.ask(0))[3], 5)

    def test_a_house_that_has_applied_less(self):
        world = led(3, 5, followers=(1,))
        world.follow(2, 0)
        exchange(world, 2)
        world.apply(2, many=2)
        world.takeover(1, (0,), forced=True)
        write_rows(world, 1, 1)
        self.same(world.rejoin(2, 1), (5, ()))
        self.same(world.marks(2), (0, 5, 2, 0, 1, 1, False))
        self.same(world.table(2), (("k", 2),))

    def test_nothing_parts_and_the_other_is_further_or_the_same(self):
        world = led(3, 5)
        self.same(world.rejoin(1, 0), (0, ()))
        catch_up(world, 1)
        self.same(world.rejoin(1, 0), (5, ()))
        self.same(world.marks(1), (0, 5, 5, 0, 0, 0, False))
        self.same(world.slots(0), ((1, 5),))

    def test_instead_of_whom_it_followed(self):
        world = led(3, 5, followers=(1, 2))
        world.rejoin(2, 1)
        self.same(world.marks(2)[5], 1)
        self.same((world.slots(0), world.slots(1)), (((1, 5), (2, 5)), ((2, 5),)))

    def test_nothing_else_changes(self):
        world = parted(3)
        slots, said = [world.slots(house) for house in range(3)], [world.said(house) for house in range(3)]
        world.rejoin(0, 1)
        self.same([world.said(house) for house in range(3)], said)
        self.same([world.slots(0), world.slots(2)], [slots[0], slots[2]])
        self.same(world.lines(), [(0, 0, None, 0, False), (1, 1, 0, 5, True)])
        self.same(len(world), 11)

    def test_a_parting_at_the_very_beginning(self):
        world = World(2)
        world.takeover(1, (), forced=True)
        write_rows(world, 0, 2)
        write_rows(world, 1, 1)
        self.same(world.rejoin(0, 1), (0, told(0, 1, 2)))
        self.same(world.marks(0), (0, 0, 0, 0, 1, 1, False))
        self.same(world.table(0), ())

    def test_rows_of_several_lines_are_given_up(self):
        world = parted(2)
        world.takeover(2, (), forced=True)
        write_rows(world, 2, 2)
        # House 2 has the lines 0, 1 and 2; house 0 takes a greater one than these at place 7 of line 0.
        world.rejoin(1, 2)
        world.takeover(1, (0,), forced=True)
        world.takeover(0, (1,), forced=True)
        write_rows(world, 0, 1)
        self.same(world.rejoin(2, 0), (5, told(1, 6, 7) + told(2, 8, 9)))
        self.same(world.history(2), ((0, 0), (6, 7)))

    def test_ring(self):
        world = led(3, 5)
        world.follow(1, 0)
        world.follow(2, 1)
        self.unchanged(world, Ring, {}, world.rejoin, 0, 0)
        self.unchanged(world, Ring, {}, world.rejoin, 0, 1)
        self.unchanged(world, Ring, {}, world.rejoin, 0, 2)
        self.unchanged(world, Ring, {}, world.rejoin, 1, 2)

    def test_elder(self):
        world = parted(3)
        self.unchanged(world, Elder, {"wanted": 1}, world.rejoin, 1, 0)
        self.unchanged(world, Elder, {"wanted": 1}, world.rejoin, 2, 0)

    def test_ring_goes_ahead_of_elder(self):
        world = parted(3)
        world.rejoin(0, 1)
        world.takeover(2, (1,), forced=True)
        self.unchanged(world, Ring, {}, world.rejoin, 1, 0)

    def test_short(self):
        world = led(3, 5, followers=(1,))
        world.follow(2, 0)
        self.unchanged(world, Short, {"place": 0}, world.rejoin, 1, 2)
        exchange(world, 2)
        write_rows(world, 0, 2)
        exchange(world, 1)
        self.unchanged(world, Short, {"place": 5}, world.rejoin, 1, 2)

    def test_elder_goes_ahead_of_short(self):
        world = led(3, 5, followers=(1,))
        world.takeover(1, (), forced=True)
        self.unchanged(world, Elder, {"wanted": 1}, world.rejoin, 1, 2)

    def test_too_old_by_the_floor(self):
        world = parted(3)
        world.free(0, 1)
        world.free(0, 2)
        world.trim(0)
        self.unchanged(world, TooOld, {"since": 8}, world.rejoin, 0, 1)

    def test_too_old_by_the_state(self):
        world = parted(3)
        world.forget(0, 6)
        self.unchanged(world, TooOld, {"since": 6}, world.rejoin, 0, 1)

    def test_the_greater_one_of_floor_and_oldest_moment(self):
        for place, since in ((7, 8), (8, 8)):
            world = parted(3)
            world.free(0, 1)
            world.free(0, 2)
            world.forget(0, place)
            world.trim(0)
            self.unchanged(world, TooOld, {"since": since}, world.rejoin, 0, 1)
        world = parted(3)
        world.trim(0)
        world.forget(0, 7)
        self.same(world.marks(0)[:4], (5, 8, 8, 7))
        self.unchanged(world, TooOld, {"since": 7}, world.rejoin, 0, 1)

    def test_a_parting_at_the_floor_and_at_the_oldest_moment(self):
        world = parted(3)
        world.trim(0)
        world.forget(0, 5)
        self.same(world.marks(0)[:4], (5, 8, 8, 5))
        self.same(world.rejoin(0, 1), (5, told(0, 6, 8)))
        self.same(world.marks(0), (5, 5, 5, 5, 1, 1, False))

    def test_short_goes_ahead_of_too_old(self):
        world = led(3, 5, followers=(1,))
        world.follow(2, 0)
        world.trim(1)
        self.same(world.marks(1)[0], 5)
        self.unchanged(world, Short, {"place": 0}, world.rejoin, 1, 2)


class RenewTest(WorldCase):

    def test_from_the_others_state(self):
        world = parted(3)
        self.same(world.renew(0, 1), (8, told(0, 6, 8)))
        self.same(world.log_rows(0), ())
        self.same(world.history(0), ((0, 0), (1, 5)))
        self.same(world.marks(0), (8, 8, 8, 8, 1, 1, False))
        self.same(world.table(0), world.table(1))
        self.same(world.slots(1), ((0, 8), (2, 8)))
        self.same(world.trail()[-1], ("renew", 0, 1))
        self.same(world.letter(world.ask(0))[3:7], (4, 1, 8, 8))

    def test_where_the_other_has_not_applied_all(self):
        world = parted(3)
        write_rows(world, 1, 4)
        exchange(world, 2)
        world.apply(2, many=2)
        self.same(world.marks(2)[1:3], (12, 10))
        self.same(world.renew(0, 2), (10, told(0, 6, 8)))
        self.same(world.table(0), ())
        self.same(world.marks(0), (10, 10, 10, 10, 1, 2, False))
        catch_up(world, 0)
        self.same(world.log_rows(0), told(1, 11, 12))
        self.same(world.table(0), (("k", 12),))
        self.same(world.history(0), ((0, 0), (1, 5)))

    def test_its_base_is_kept_when_it_goes_on(self):
        world = parted(3)
        world.renew(0, 1)
        write_rows(world, 1, 2)
        catch_up(world, 0)
        self.same(world.marks(0), (8, 10, 10, 8, 1, 1, False))
        self.refused(TooOld, {"since": 8}, world.read, 0, "k", at=7)
        self.same(world.read(0, "k", at=8), (8, (1, 8)))

    def test_nothing_parts(self):
        world = led(3, 5)
        self.same(world.renew(1, 0), (5, ()))
        self.same(world.marks(1), (5, 5, 5, 5, 0, 0, False))
        self.same(world.renew(1, 0), (5, ()))
        write_rows(world, 0, 2)
        self.same(world.renew(1, 0), (7, ()))

    def test_a_log_that_was_kept_is_given_up_without_a_word_up_to_the_parting(self):
        world = led(2, 5, followers=(1,))
        write_rows(world, 0, 2)
        self.same(world.renew(1, 0), (7, ()))
        self.same(world.log_rows(1), ())

    def test_rows_that_were_cut_off_are_not_told(self):
        world = parted(3)
        world.free(0, 1)
        world.free(0, 2)
        world.trim(0)
        self.same(world.renew(0, 1), (8, ()))
        world = parted(3)
        world.trim(0)
        write_rows(world, 0, 2)
        world.free(0, 1)
        world.free(0, 2)
        world.forget(0, 10)
        self.same(world.renew(0, 1), (8, told(0, 6, 10)))

    def test_from_an_empty_state(self):
        world = World(2)
        world.takeover(1, (), forced=True)
        self.same(world.renew(0, 1), (0, ()))
        self.same(world.marks(0), (0, 0, 0, 0, 1, 1, False))

    def test_after_gone(self):
        world = led(2, 30)
        world.follow(1, 0)
        world.free(0, 1)
        world.trim(0)
        self.same(exchange(world, 1), ("gone", 30))
        self.same(world.renew(1, 0), (30, ()))
        self.same(exchange(world, 1), ("more", 0))
        self.same(world.table(1), world.table(0))

    def test_ring(self):
        world = led(3, 5)
        world.follow(1, 0)
        world.follow(2, 1)
        for other in (0, 1, 2):
            self.unchanged(world, Ring, {}, world.renew, 0, other)

    def test_elder(self):
        world = parted(3)
        self.unchanged(world, Elder, {"wanted": 1}, world.renew, 1, 0)
        self.unchanged(world, Elder, {"wanted": 1}, world.renew, 2, 0)

    def test_short_where_the_other_is_a_beginning(self):
        world = led(3, 5, followers=(1,))
        world.follow(2, 0)
        self.unchanged(world, Short, {"place": 0}, world.renew, 1, 2)

    def test_short_where_the_other_has_applied_less(self):
        world = led(3, 5, followers=(1,))
        world.follow(2, 0)
        exchange(world, 2)
        self.unchanged(world, Short, {"place": 5}, world.renew, 1, 2)
        world.apply(2, many=4)
        self.unchanged(world, Short, {"place": 5}, world.renew, 1, 2)
        world.apply(2, many=1)
        self.same(world.renew(1, 2), (5, ()))

    def test_short_also_where_they_part(self):
        world = led(4, 5, followers=(1, 2))
        world.takeover(1, (), forced=True)
        write_rows(world, 1, 2)
        world.follow(3, 1)
        exchange(world, 3)
        world.apply(3, many=4)
        write_rows(world, 0, 1)
        self.unchanged(world, Short, {"place": 5}, world.renew, 0, 3)
        world.apply(3, many=1)
        self.same(world.renew(0, 3), (5, told(0, 6, 6)))

    def test_never_too_old(self):
        world = parted(3)
        world.free(0, 1)
        world.free(0, 2)
        world.trim(0)
        world.forget(0, 8)
        self.same(world.renew(0, 1), (8, ()))


class ThoseThatFollowTest(WorldCase):

    def chain(self):
        """House 0 leads line 0 up to place 7; 2, 3 and 4 follow it and hold 7, 5 and 0 rows; 1 parted at place 5."""
        world = led(5, 5, followers=(1, 2, 3))
        world.follow(4, 0)
        world.takeover(1, (), forced=True)
        write_rows(world, 1, 3)
        write_rows(world, 0, 2)
        catch_up(world, 2)
        return world

    def test_behind_a_rejoining(self):
        world = self.chain()
        world.rejoin(0, 1)
        self.same([world.marks(house)[5] for house in range(5)], [1, None, None, 0, 0])
        passes = [world.letter(world.ask(house))[3] for house in (0, 3, 4)]
        self.same(passes, [5, 6, 7])
        self.same(world.follow(4, 3), 8)

    def test_behind_a_renewing(self):
        world = self.chain()
        world.renew(0, 1)
        self.same([world.marks(house)[5] for house in range(5)], [1, None, None, 0, 0])
        self.same([world.letter(world.ask(house))[3] for house in (0, 3, 4)], [5, 6, 7])
        self.same(exchange(world, 3), ("gone", 8))

    def test_letters_of_before_are_elder(self):
        world = self.chain()
        want = world.ask(4)
        rows = world.give(want)[1]
        world.rejoin(0, 1)
        self.same(world.give(want), ("elder",))
        self.same(world.give(rows), ("elder",))
        self.same(exchange(world, 4), ("more", 5))

    def test_their_slots_stay(self):
        world = self.chain()
        slots = world.slots(0)
        world.rejoin(0, 1)
        self.same(world.slots(0), slots)

    def test_those_that_follow_those_are_left_alone(self):
        world = self.chain()
        world.follow(4, 3)
        want = world.ask(4)
        world.rejoin(0, 1)
        self.same(world.marks(4)[5], 3)
        self.same(world.give(want)[0], "answered")

    def test_passes_by_rising_houses(self):
        world = led(6, 3)
        for house in (5, 3, 4, 2):
            world.follow(house, 0)
        world.takeover(1, (), forced=True)
        write_rows(world, 1, 1)
        self.same(world.rejoin(0, 1), (0, told(0, 1, 3)))
        self.same([world.letter(world.ask(house))[3] for house in (0, 2, 3, 4, 5)], [5, 6, 7, 8, 9])

    def test_a_follower_that_has_all_that_is_left(self):
        world = self.chain()
        self.same(world.marks(3)[1], 5)
        world.rejoin(0, 1)
        self.same(exchange(world, 0), ("more", 3))
        self.same(exchange(world, 3), ("more", 3))
        self.same(world.log_rows(3), world.log_rows(1))

    def test_a_following_house_keeps_its_promise_below_the_line(self):
        world = self.chain()
        world.rejoin(0, 1)
        for house in (0, 3, 4):
            whom = world.marks(house)[5]
            self.assertLessEqual(world.marks(house)[4], world.history(whom)[-1][0])


class TrimTest(WorldCase):

    def test_without_slots_up_to_what_is_applied(self):
        world = led(2, 9)
        self.same(world.trim(0), (9, ()))
        self.same(world.marks(0), (9, 9, 9, 0, 0, None, True))
        self.same(world.log_rows(0), ())
        self.same(world.history(0), ((0, 0),))
        self.same(world.trim(0), (9, ()))
        self.same(world.trail()[-2:], [("trim", 0), ("trim", 0)])

    def test_what_is_not_applied_stays(self):
        world = led(2, 9)
        world.follow(1, 0)
        exchange(world, 1)
        world.apply(1, many=4)
        self.same(world.trim(1), (4, ()))
        self.same(world.log_rows(1), told(0, 5, 9))
        self.same(world.apply(1), 5)

    def test_slots_hold_rows(self):
        world = led(3, 9, followers=(1,))
        world.follow(2, 0)
        self.same(world.trim(0), (0, ()))
        exchange(world, 2)
        exchange(world, 2)
        write_rows(world, 0, 3)
        self.same(world.trim(0), (9, ()))
        self.same(world.log_rows(0), told(0, 10, 12))

    def test_slots_are_broken_beyond_the_room(self):
        world = led(4, 5, followers=(3, 1), room=5)
        world.follow(2, 0)
        self.same(world.trim(0), (0, ()))
        write_rows(world, 0, 1)
        self.same(world.trim(0), (5, (2,)))
        self.same(world.slots(0), ((1, 5), (3, 5)))
        write_rows(world, 0, 5)
        self.same(world.trim(0), (11, (1, 3)))
        self.same(world.slots(0), ())

    def test_the_floor_never_goes_back(self):
        world = led(3, 9, followers=(1,))
        world.trim(0)
        self.same(world.marks(0)[0], 9)
        world.follow(2, 0)
        self.same(world.slots(0), ((1, 9), (2, 0)))
        self.same(world.trim(0), (9, ()))
        self.same(world.marks(0)[0], 9)

    def test_of_nothing(self):
        self.same(World(1).trim(0), (0, ()))

    def test_lines_of_rows_that_are_cut_off_are_known(self):
        world = parted(3)
        world.free(1, 2)
        world.trim(1)
        self.same(world.read(1, "k", at=5), (None, (0, 5)))
        self.same(world.read(1, "k", at=6), (6, (1, 6)))
        self.same(world.rejoin(0, 1), (5, told(0, 6, 8)))


class FreeTest(WorldCase):

    def test_takes_a_slot_away(self):
        world = led(3, 5, followers=(1, 2))
        self.assertIsNone(world.free(0, 1))
        self.same(world.slots(0), ((2, 5),))
        self.assertIsNone(world.free(0, 1))
        self.assertIsNone(world.free(0, 0))
        self.same(world.marks(1)[5], 0)
        self.same(world.trail()[-3:], [("free", 0, 1), ("free", 0, 1), ("free", 0, 0)])

    def test_it_is_held_again_when_the_house_asks(self):
        world = led(2, 5, followers=(1,))
        world.free(0, 1)
        exchange(world, 1)
        self.same(world.slots(0), ((1, 5),))


class ForgetTest(WorldCase):

    def test_moments_ahead_of_a_place(self):
        world = led(1, 9)
        self.assertIsNone(world.forget(0, 4))
        self.same(world.marks(0), (0, 9, 9, 4, 0, None, True))
        self.same(world.read(0, "k", at=4), (4, (0, 4)))
        self.refused(TooOld, {"since": 4}, world.read, 0, "k", at=3)
        self.assertIsNone(world.forget(0, 4))
        self.assertIsNone(world.forget(0, 9))
        self.same(world.table(0), (("k", 9),))
        self.same(world.log_rows(0), told(0, 1, 9))
        self.same(world.trail()[-1], ("forget", 0, 9))

    def test_no_place(self):
        world = led(2, 9)
        for place in wrong_places():
            self.unchanged(world, NoPlace, {"place": place}, world.forget, 0, place)

    def test_too_early_and_too_old(self):
        world = led(2, 9)
        world.follow(1, 0)
        exchange(world, 1)
        world.apply(1, many=5)
        world.forget(1, 3)
        self.unchanged(world, TooEarly, {"place": 5}, world.forget, 1, 6)
        self.unchanged(world, TooEarly, {"place": 5}, world.forget, 1, 10 ** 6)
        self.unchanged(world, TooOld, {"since": 3}, world.forget, 1, 2)
        self.unchanged(world, TooOld, {"since": 3}, world.forget, 1, 0)
        self.assertIsNone(world.forget(1, 5))


if __name__ == "__main__":
    unittest.main()

"""Promises 2, 3, 24, 25 and 26: follow, ask, give, lose, apply and done."""

import unittest

from laterline.errors import Ahead, Elder, FollowsNone, Full, Leads, NoCount, NoHouse, NoLeader, NoLetter, Ring
from laterline.world import World
from tests.helpers import not_numbers
from tests.worlds import WorldCase, catch_up, exchange, led, parted, row_of, write_rows


def rows_of(first, last):
    return tuple(row_of(place) for place in range(first, last + 1))


class FollowTest(WorldCase):

    def test_passes_are_counted_from_1_on(self):
        world = led(4, 2)
        self.same(world.follow(1, 0), 1)
        self.same(world.follow(2, 1), 2)
        self.same(world.follow(3, 0), 3)
        self.same(world.follow(3, 0), 4)
        self.same([world.marks(house)[5] for house in range(4)], [None, 0, 1, 0])

    def test_a_refused_one_counts_no_pass(self):
        world = led(3, 2)
        self.unchanged(world, Ring, {}, world.follow, 1, 1)
        self.unchanged(world, Leads, {}, world.follow, 0, 1)
        self.same(world.follow(1, 0), 1)

    def test_instead_of_whom_it_followed(self):
        world = led(3, 2, followers=(1, 2))
        self.same(world.follow(2, 1), 3)
        self.same(world.marks(2), (0, 2, 2, 0, 0, 1, False))
        self.same(world.slots(0), ((1, 2), (2, 2)))
        self.same(world.slots(1), ((2, 2),))

    def test_nothing_else_changes(self):
        world = led(2, 3)
        world.follow(1, 0)
        self.same(world.marks(1), (0, 0, 0, 0, 0, 0, False))
        self.same(world.history(1), ((0, 0),))
        self.same(world.slots(0), ((1, 0),))
        self.same((world.said(0), world.said(1), world.slots(1)), ((), (), ()))
        self.same(world.trail()[-1], ("follow", 1, 0))

    def test_an_empty_log_is_a_beginning_of_each_other_one(self):
        world = World(3)
        self.same(world.follow(1, 2), 1)
        self.same(world.follow(2, 0), 2)

    def test_a_history_with_a_greater_line_is_not_taken_over_yet(self):
        world = led(3, 5, followers=(1, 2))
        world.takeover(1, (0,), forced=True)
        world.follow(2, 1)
        self.same(world.history(2), ((0, 0),))
        self.same(world.marks(2)[4], 0)

    def test_leads(self):
        world = led(2, 1)
        self.unchanged(world, Leads, {}, world.follow, 0, 1)
        self.unchanged(world, Leads, {}, world.follow, 0, 0)
        world.follow(1, 0)
        self.unchanged(world, Leads, {}, world.follow, 0, 1)

    def test_ring(self):
        world = World(5)
        world.follow(2, 1)
        world.follow(3, 2)
        world.follow(4, 3)
        for other in (1, 2, 3, 4):
            self.unchanged(world, Ring, {}, world.follow, 1, other)
        self.same(world.follow(1, 0), 4)
        self.same(world.follow(4, 2), 5)
        self.same(world.follow(3, 4), 6)
        self.unchanged(world, Ring, {}, world.follow, 4, 3)

    def test_ring_goes_ahead_of_elder_and_ahead(self):
        world = parted()
        self.unchanged(world, Ring, {}, world.follow, 2, 2)

    def test_elder(self):
        world = led(4, 2, followers=(1, 2))
        world.takeover(2, (1, 3), forced=True)
        for house in (1, 3):
            self.unchanged(world, Elder, {"wanted": 2}, world.follow, house, 0)
        self.same(world.follow(3, 2), 3)

    def test_a_promise_may_be_the_very_line(self):
        world = led(3, 2, followers=(1, 2))
        world.takeover(2, (1,), forced=True)
        self.same(world.marks(1)[4:6], (2, None))
        self.same(world.follow(1, 2), 3)

    def test_elder_goes_ahead_of_ahead(self):
        world = parted()
        world.takeover(2, (1, 0), forced=True)
        self.unchanged(world, Elder, {"wanted": 2}, world.follow, 0, 1)

    def test_ahead_where_logs_part(self):
        world = led(3, 5, followers=(1, 2))
        world.takeover(1, (), forced=True)
        write_rows(world, 0, 1)
        catch_up(world, 2)
        write_rows(world, 1, 4)
        self.unchanged(world, Ahead, {"place": 5}, world.follow, 2, 1)

    def test_ahead_where_the_other_is_shorter(self):
        world = led(3, 5, followers=(1,))
        world.follow(2, 0)
        self.unchanged(world, Ahead, {"place": 0}, world.follow, 1, 2)
        self.same(world.follow(2, 1), 3)

    def test_slot_at_the_other_one_goes_back_with_the_log(self):
        world = led(4, 5, followers=(1, 2, 3))
        world.takeover(1, (2,), forced=True)
        write_rows(world, 1, 3)
        world.follow(2, 1)
        catch_up(world, 2)
        self.same(world.slots(1), ((2, 8),))
        world.takeover(3, (0,), forced=True)
        write_rows(world, 3, 1)
        world.rejoin(2, 3)
        self.same(world.marks(2)[1], 5)
        self.same(world.slots(1), ((2, 8),))
        world.takeover(0, (1,), forced=True)
        world.takeover(1, (), forced=True)
        world.follow(2, 1)
        self.same(world.slots(1), ((2, 5),))
        self.same(world.slots(3), ((2, 5),))


class AskTest(WorldCase):

    def test_a_want(self):
        world = led(3, 5)
        world.follow(1, 0)
        self.same(world.ask(1), 0)
        self.same(world.letter(0), ("want", 1, 0, 1, 0, 0, 0, ()))
        world.give(0)
        world.give(1)
        world.apply(1, many=2)
        self.same(world.ask(1), 2)
        self.same(world.letter(2), ("want", 1, 0, 1, 0, 5, 2, ()))
        self.same(world.lying(), (0, 1, 2))
        self.same(world.trail()[-1], ("ask", 1))

    def test_its_sayings_are_all_that_the_book_says(self):
        world = led(4, 5)
        world.follow(1, 0)
        world.follow(2, 1)
        world.follow(3, 2)
        for house in (1, 2, 3, 2):
            exchange(world, house)
        self.same(world.said(1), ((2, 0, 5, 0), (3, 0, 0, 0)))
        number = world.ask(1)
        self.same(world.letter(number), ("want", 1, 0, 1, 0, 5, 0, ((2, 0, 5, 0), (3, 0, 0, 0))))

    def test_its_line_is_that_of_the_history(self):
        world = led(3, 5, followers=(1,))
        world.takeover(1, (0, 2))
        world.follow(2, 1)
        exchange(world, 2)
        self.same(world.letter(world.ask(2))[4:7], (1, 5, 0))

    def test_a_letter_stays_as_it_was_sent(self):
        world = led(2, 5)
        world.follow(1, 0)
        number = world.ask(1)
        catch_up(world, 1)
        self.same(world.letter(number), ("want", 1, 0, 1, 0, 0, 0, ()))

    def test_follows_none(self):
        world = led(3, 2, followers=(1,))
        self.unchanged(world, FollowsNone, {}, world.ask, 0)
        self.unchanged(world, FollowsNone, {}, world.ask, 2)

    def test_the_trail_is_full_ahead_of_the_letters(self):
        world = led(2, 1)
        world.follow(1, 0)
        for number in range(1998):
            self.same(world.ask(1), number)
        self.unchanged(world, Full, {"what": "trail"}, world.ask, 1)

    def test_2000_letters_and_one_more(self):
        world = led(2, 1)
        world.follow(1, 0)
        while world.post.sent() < 1999:
            world.post.send(("want", 1, 0, 1, 0, 0, 0, ()))
        self.same(world.ask(1), 1999)
        self.unchanged(world, Full, {"what": "letters"}, world.ask, 1)
        self.unchanged(world, Full, {"what": "letters"}, world.give, 0)
        while len(world.trail()) < 2000:
            world.apply(0)
        self.unchanged(world, Full, {"what": "letters"}, world.ask, 1)
        self.unchanged(world, Full, {"what": "letters"}, world.give, 0)
        self.unchanged(world, FollowsNone, {}, world.ask, 0)


class GiveWantTest(WorldCase):

    def test_answered_with_rows(self):
        world = led(2, 5)
        world.follow(1, 0)
        self.same(world.give(world.ask(1)), ("answered", 1))
        self.same(world.letter(1), ("rows", 0, 1, 1, ((0, 0),), 0, rows_of(1, 5)))
        self.same(world.said(0), ((1, 0, 0, 0),))
        self.same(world.slots(0), ((1, 0),))
        self.same(world.trail()[-1], ("give", 0))

    def test_answered_with_no_rows(self):
        world = led(2, 5, followers=(1,))
        number = world.give(world.ask(1))[1]
        self.same(world.letter(number), ("rows", 0, 1, 1, ((0, 0),), 5, ()))
        self.same(world.give(number), ("more", 0))

    def test_just_20_and_more_to_come(self):
        for many, told in ((19, [19, 0]), (20, [20, 0]), (21, [20, 1, 0]), (45, [20, 20, 5, 0])):
            world = led(2, many)
            world.follow(1, 0)
            self.same([exchange(world, 1) for _ in told], [("more", new) for new in told])
            self.same(world.log_rows(1), world.log_rows(0))
            self.same(world.marks(1)[1:3], (many, 0))

    def test_answered_with_gone(self):
        world = led(3, 30, followers=(2,), room=5)
        world.follow(1, 0)
        world.free(0, 1)
        world.trim(0)
        self.same(world.marks(0)[0], 30)
        self.same(world.give(world.ask(1)), ("answered", 7))
        self.same(world.letter(7), ("gone", 0, 1, 2, 30))
        self.same(world.give(7), ("gone", 30))
        self.same(world.marks(1), (0, 0, 0, 0, 0, 0, False))
        self.same(world.slots(0), ((1, 0), (2, 30)))
        self.same(world.give(7), ("gone", 30))

    def test_rows_where_the_floor_is_the_very_end(self):
        world = led(2, 30, followers=(1,))
        world.trim(0)
        write_rows(world, 0, 2)
        self.same(exchange(world, 1), ("more", 2))

    def test_a_slot_does_not_go_back(self):
        world = led(2, 5)
        world.follow(1, 0)
        first = world.ask(1)
        catch_up(world, 1)
        self.same(world.slots(0), ((1, 5),))
        self.same(world.give(first), ("answered", 5))
        self.same(world.slots(0), ((1, 5),))
        self.same(world.said(0), ((1, 0, 5, 0),))

    def test_a_want_given_twice_is_answered_twice(self):
        world = led(2, 5)
        world.follow(1, 0)
        world.ask(1)
        self.same(world.give(0), ("answered", 1))
        write_rows(world, 0, 1)
        self.same(world.give(0), ("answered", 2))
        self.same(world.letter(2)[6], rows_of(1, 6))

    def test_not_what_tells_of_the_other_house_itself(self):
        world = World(3)
        world.follow(1, 2)
        exchange(world, 1)
        self.same(world.said(2), ((1, 0, 0, 0),))
        world.takeover(1, (0, 2))
        world.follow(2, 1)
        exchange(world, 2)
        # House 2 told of house 1, too; house 1 keeps nothing of that.
        self.same(world.letter(2), ("want", 2, 1, 2, 0, 0, 0, ((1, 0, 0, 0),)))
        self.same(world.said(1), ((2, 0, 0, 0),))

    def test_sayings_of_the_follower_itself_are_noted(self):
        world = led(3, 3)
        world.follow(1, 0)
        exchange(world, 1)
        world.follow(2, 1)
        exchange(world, 2)
        world.houses[2].book.note((2, 0, 9, 9))
        exchange(world, 2)
        self.same(world.said(1), ((2, 0, 9, 9),))


class ElderTest(WorldCase):

    def elder(self, world, number):
        """The letter is elder, and nothing but the trail changes."""
        seen = [[tell(house) for tell in (world.log_rows, world.history, world.marks, world.slots, world.said)]
                for house in range(world.many())]
        many, lying = len(world.trail()), world.lying()
        self.same(world.give(number), ("elder",))
        self.same(seen, [[tell(house) for tell in (world.log_rows, world.history, world.marks, world.slots, world.said)]
                         for house in range(world.many())])
        self.same(world.trail()[many:], [("give", number)])
        self.same(world.lying(), lying)

    def letters(self):
        """A want, rows and gone of house 1 under pass 1, which follows house 0."""
        world = led(3, 9)
        world.follow(1, 0)
        world.ask(1)
        world.give(0)
        world.free(0, 1)
        world.trim(0)
        world.give(0)
        self.same([world.letter(number)[0] for number in world.lying()], ["want", "rows", "gone"])
        return world

    def test_follows_nobody(self):
        world = self.letters()
        world.takeover(2, (1,), forced=True)
        for number in (0, 1, 2):
            self.elder(world, number)

    def test_follows_another_one(self):
        world = self.letters()
        world.follow(1, 2)
        for number in (0, 1, 2):
            self.elder(world, number)

    def test_follows_under_another_pass(self):
        world = self.letters()
        self.same(world.follow(1, 0), 2)
        for number in (0, 1, 2):
            self.elder(world, number)

    def test_leads_itself(self):
        world = self.letters()
        world.takeover(1, (), forced=True)
        for number in (0, 1, 2):
            self.elder(world, number)

    def test_elder_wants_need_no_further_letter(self):
        world = self.letters()
        world.follow(1, 0)
        while world.post.sent() < 2000:
            world.post.send(("gone", 0, 1, 1, 3))
        self.elder(world, 0)
        self.elder(world, 1999)


class GiveRowsTest(WorldCase):

    def three(self):
        """House 1 asked at the ends 0, 20 and 40, and the answers are letters 1, 3 and 5."""
        world = led(2, 50)
        world.follow(1, 0)
        for _ in range(3):
            exchange(world, 1)
        return world

    def test_twice_and_late(self):
        world = self.three()
        self.same(world.marks(1)[1], 50)
        for number in (1, 3, 5, 1, 5):
            self.same(world.give(number), ("more", 0))
        self.same(world.log_rows(1), world.log_rows(0))

    def test_any_order(self):
        world = led(2, 50)
        world.follow(1, 0)
        world.ask(1)
        world.give(0)
        write_rows(world, 0, 1)
        world.ask(1)
        world.give(2)
        self.same(world.give(3), ("more", 20))
        self.same(world.give(1), ("more", 0))
        self.same(world.give(3), ("more", 0))
        self.same(world.log_rows(1), world.log_rows(0)[:20])

    def test_part_of_the_rows_is_new(self):
        world = led(2, 3)
        world.follow(1, 0)
        world.ask(1)
        world.give(0)
        write_rows(world, 0, 4)
        world.give(0)
        self.same(world.give(1), ("more", 3))
        self.same(world.give(2), ("more", 4))
        self.same(world.log_rows(1), world.log_rows(0))

    def test_a_lost_letter(self):
        world = led(2, 3)
        world.follow(1, 0)
        world.ask(1)
        world.give(0)
        self.assertIsNone(world.lose(1))
        self.unchanged(world, NoLetter, {"number": 1}, world.give, 1)
        self.unchanged(world, NoLetter, {"number": 1}, world.lose, 1)
        self.same(world.give(0), ("answered", 2))
        self.same(world.give(2), ("more", 3))
        self.same(world.lying(), (0, 2))

    def test_what_is_no_letter(self):
        world = self.three()
        for number in not_numbers() + [-1, 6, 10 ** 59]:
            self.unchanged(world, NoLetter, {"number": number}, world.give, number)
            self.unchanged(world, NoLetter, {"number": number}, world.lose, number)

    def test_history_and_promise_are_taken_over(self):
        world = led(4, 5, followers=(1, 2))
        world.takeover(2, (1, 0, 3))
        write_rows(world, 2, 2)
        world.follow(3, 2)
        self.same(world.marks(3)[4], 2)
        self.same(exchange(world, 3), ("more", 7))
        self.same(world.history(3), ((0, 0), (2, 5)))
        self.same(world.log_rows(3), world.log_rows(2))
        self.same(world.marks(3), (0, 7, 0, 0, 2, 2, False))

    def test_promise_rises_with_the_line(self):
        world = led(3, 5, followers=(1,))
        world.takeover(1, (0,), forced=True)
        world.follow(2, 1)
        self.same(world.marks(2)[4], 0)
        self.same(exchange(world, 2), ("more", 5))
        self.same((world.history(2), world.marks(2)[4]), (((0, 0), (1, 5)), 1))

    def test_history_is_taken_over_also_without_rows(self):
        world = led(3, 5, followers=(1, 2))
        world.takeover(1, (0,), forced=True)
        world.follow(2, 1)
        self.same(exchange(world, 2), ("more", 0))
        self.same((world.history(2), world.marks(2)[4]), (((0, 0), (1, 5)), 1))

    def test_history_of_a_lesser_line_is_not(self):
        world = led(3, 5, followers=(1, 2))
        world.follow(2, 1)
        world.ask(2)
        world.give(world.lying()[-1])
        elder_rows = world.lying()[-1]
        world.takeover(1, (0,), forced=True)
        exchange(world, 2)
        self.same(world.history(2), ((0, 0), (1, 5)))
        self.same(world.give(elder_rows), ("more", 0))
        self.same(world.history(2), ((0, 0), (1, 5)))
        self.same(world.marks(2)[4:6], (1, 1))


class ApplyTest(WorldCase):

    def held(self):
        world = led(2, 9)
        world.follow(1, 0)
        exchange(world, 1)
        return world

    def test_all(self):
        world = self.held()
        self.same(world.apply(1), 9)
        self.same(world.table(1), world.table(0))
        self.same(world.apply(1), 0)
        self.same(world.apply(0), 0)

    def test_so_many(self):
        world = self.held()
        self.same(world.apply(1, many=0), 0)
        self.same(world.apply(1, many=4), 4)
        self.same(world.marks(1), (0, 9, 4, 0, 0, 0, False))
        self.same(world.table(1), (("k", 4),))
        self.same(world.apply(1, many=None), 5)
        self.same(world.apply(1, many=10 ** 59), 0)
        self.same(world.trail()[-1], ("apply", 1, 10 ** 59))

    def test_more_than_there_are(self):
        self.same(self.held().apply(1, many=10), 9)

    def test_no_count(self):
        world = self.held()
        for many in [thing for thing in not_numbers() if thing is not None] + [-1, -10 ** 59]:
            self.unchanged(world, NoCount, {"what": "many"}, world.apply, 1, many=many)
            self.refused(NoHouse, {"house": 2}, world.apply, 2, many=many)

    def test_what_comes_later_is_applied_later(self):
        world = self.held()
        world.apply(1)
        write_rows(world, 0, 2)
        exchange(world, 1)
        self.same(world.apply(1), 2)
        self.same(world.table(1), world.table(0))


class DoneTest(WorldCase):

    def held(self, rule, many=4):
        """House 0 wrote 8 rows; 1 holds 8 and applied 2, 2 holds 6 and applied 6, and both said so."""
        world = led(many, 6, rule=rule)
        world.follow(1, 0)
        world.follow(2, 0)
        exchange(world, 2)
        exchange(world, 1)
        write_rows(world, 0, 2)
        world.apply(2)
        world.ask(2)
        world.give(world.lying()[-1])
        exchange(world, 1)
        world.apply(1, many=2)
        world.ask(1)
        world.give(world.lying()[-1])
        return world

    def test_written(self):
        world = self.held(("written",))
        self.same(world.done(0), (0, 8, (0, 1)))
        write_rows(world, 0, 1)
        self.same(world.done(0), (0, 9, (0,)))

    def test_held(self):
        self.same(self.held(("held", 1)).done(0), (0, 8, (0, 1)))
        self.same(self.held(("held", 2)).done(0), (0, 6, (0, 1, 2)))
        self.assertIsNone(self.held(("held", 3)).done(0))

    def test_applied(self):
        self.same(self.held(("applied", 1)).done(0), (0, 6, (0, 2)))
        self.same(self.held(("applied", 2)).done(0), (0, 2, (0, 1, 2)))
        self.assertIsNone(self.held(("applied", 3)).done(0))

    def test_too_few_houses_for_the_rule(self):
        self.assertIsNone(self.held(("held", 7)).done(0))
        self.assertIsNone(self.held(("applied", 7)).done(0))
        self.same(led(1, 3).done(0), (0, 3, (0,)))

    def test_at_the_fork_and_behind_it(self):
        world = led(3, 5, followers=(1, 2), rule=("held", 1))
        world.takeover(1, (0, 2))
        self.assertIsNone(world.done(1))
        world.follow(2, 1)
        exchange(world, 2)
        write_rows(world, 1, 2)
        self.assertIsNone(world.done(1))
        exchange(world, 2)
        self.assertIsNone(world.done(1))
        exchange(world, 2)
        self.same(world.done(1), (1, 7, (1, 2)))

    def test_by_way_of_others(self):
        world = led(4, 5, rule=("held", 3))
        for house in (1, 2, 3):
            world.follow(house, house - 1)
        for house in (1, 2, 3, 3, 2, 1):
            self.assertIsNone(world.done(0))
            exchange(world, house)
        self.same(world.done(0), (0, 5, (0, 1, 2, 3)))

    def test_only_of_a_house_that_leads(self):
        world = led(3, 5, followers=(1, 2))
        self.unchanged(world, NoLeader, {}, world.done, 1)
        world.takeover(1, (0, 2))
        self.unchanged(world, NoLeader, {}, world.done, 0)

    def test_it_is_a_question(self):
        world = led(2, 5, followers=(1,))
        many = len(world.trail())
        world.done(0)
        self.same(len(world.trail()), many)


if __name__ == "__main__":
    unittest.main()

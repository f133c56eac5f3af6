"""Promises 2, 3 and 36: calm."""

import copy
import inspect
import unittest

from laterline.calm import TURNS, calm
from laterline.errors import Full, NoCount, Restless
from laterline.world import World
from tests.helpers import not_numbers
from tests.worlds import WorldCase, exchange, led, parted, write_rows


def chain(rows, order):
    """Houses that follow one another, the first of the order the one that wrote; none has any of its rows yet."""
    world = World(len(order))
    if order[0] != 0:
        world.takeover(order[0], order)
    for ahead, house in zip(order, order[1:]):
        world.follow(house, ahead)
        exchange(world, house)
    write_rows(world, order[0], rows)
    return world


class CalmTest(WorldCase):

    def all_alike(self, world, gone=()):
        """Each house that follows has the very log of the one it follows, and has applied it all."""
        for house in range(world.many()):
            floor, end, applied, _, _, whom, _ = world.marks(house)
            if whom is not None:
                self.same(applied, end)
            if whom is not None and house not in gone:
                self.same(world.marks(whom)[1], end)
                ours, theirs = world.log_rows(house), world.log_rows(whom)
                least = max(floor, world.marks(whom)[0])
                self.same([row for row in ours if row[1] > least], [row for row in theirs if row[1] > least])

    def test_constant_and_default(self):
        self.same(TURNS, 40)
        self.same(inspect.signature(calm).parameters["turns"].default, 40)

    def test_no_house_follows(self):
        for world in (World(1), World(8), led(3, 5)):
            before = copy.deepcopy(world)
            self.same(calm(world), (1, ()))
            self.same(calm(world, turns=1), (1, ()))
            self.assertEqual(world, before)

    def test_one_follower(self):
        for rows, turns in ((0, 1), (1, 2), (20, 2), (21, 3), (400, 21)):
            world = led(2, rows)
            world.follow(1, 0)
            self.same(calm(world), (turns, ()))
            self.same(world.log_rows(1), world.log_rows(0))
            self.same(world.table(1), world.table(0))
            self.same(calm(world), (1, ()))

    def test_what_a_turn_does(self):
        world = led(3, 1)
        world.follow(2, 0)
        world.follow(1, 2)
        many = len(world.trail())
        self.same(calm(world), (3, ()))
        turn = [[("ask", 1), ("give", at), ("give", at + 1), ("apply", 1, None),
                 ("ask", 2), ("give", at + 2), ("give", at + 3), ("apply", 2, None)] for at in (0, 4, 8)]
        self.same(world.trail()[many:], turn[0] + turn[1] + turn[2])

    def test_a_chain_in_the_lucky_order(self):
        world = chain(30, tuple(range(8)))
        self.same(calm(world), (3, ()))
        self.all_alike(world)

    def test_a_chain_in_the_unlucky_order(self):
        world = chain(30, tuple(range(7, -1, -1)))
        self.same(calm(world), (9, ()))
        self.all_alike(world)

    def test_40_turns_are_always_enough(self):
        world = chain(400, tuple(range(7, -1, -1)))
        self.same(calm(world), (27, ()))
        self.all_alike(world)
        self.same(world.marks(0)[1], 400)

    def test_restless(self):
        world = chain(30, tuple(range(7, -1, -1)))
        self.refused(Restless, {"turns": 8}, calm, world, turns=8)
        self.same(world.marks(0)[1], 30)
        self.same(calm(world, turns=1), (1, ()))
        world = led(2, 400)
        world.follow(1, 0)
        self.refused(Restless, {"turns": 1}, calm, world, turns=1)
        self.same(world.marks(1)[1:3], (20, 20))
        self.refused(Restless, {"turns": 19}, calm, world, turns=19)
        self.same(world.marks(1)[1:3], (400, 400))
        self.same(calm(world, turns=400), (1, ()))

    def test_the_last_turn_counts(self):
        world = led(2, 20)
        world.follow(1, 0)
        self.same(calm(world, turns=2), (2, ()))

    def gone_world(self):
        """Of 0's log all is cut off; 1 and 3 need it, 2 has it, and 4 follows 1."""
        world = led(5, 30, followers=(2,))
        world.follow(3, 0)
        world.follow(1, 0)
        world.follow(4, 1)
        world.free(0, 1)
        world.free(0, 3)
        world.trim(0)
        return world

    def test_gone(self):
        world = self.gone_world()
        self.same(calm(world), (1, (1, 3)))
        self.all_alike(world, gone=(1, 3))
        write_rows(world, 0, 25)
        self.same(calm(world), (3, (1, 3)))
        self.all_alike(world, gone=(1, 3))
        world.renew(1, 0)
        self.same(calm(world), (1, (3, 4)))
        world.renew(4, 2)
        world.renew(3, 4)
        self.same(calm(world), (1, ()))
        self.all_alike(world)

    def test_gone_of_the_last_turn_only(self):
        world = led(4, 30, followers=(1,))
        world.follow(3, 2)
        world.follow(2, 1)
        world.free(1, 2)
        world.trim(1)
        write_rows(world, 0, 30)
        # House 1 brings rows for two turns; house 2 is told gone in each of them, house 3 never.
        self.same(calm(world), (3, (2,)))
        self.all_alike(world, gone=(2,))

    def test_behind_takeovers_and_rejoinings(self):
        world = parted(3)
        world.rejoin(0, 2)
        write_rows(world, 1, 22)
        self.same(calm(world), (4, ()))
        self.all_alike(world)
        self.same(world.log_rows(0), world.log_rows(1))

    def test_a_history_without_rows_is_no_new_row(self):
        world = led(2, 5, followers=(1,))
        world.takeover(1, (0,))
        world.follow(0, 1)
        self.same(calm(world), (1, ()))
        self.same(world.history(0), ((0, 0), (1, 5)))

    def test_rows_that_are_held_are_applied(self):
        world = led(2, 5)
        world.follow(1, 0)
        world.ask(1)
        world.give(0)
        world.give(1)
        self.same(world.marks(1)[1:3], (5, 0))
        self.same(calm(world), (1, ()))
        self.same(world.marks(1)[1:3], (5, 5))

    def test_no_count(self):
        world = led(2, 5)
        world.follow(1, 0)
        for turns in not_numbers() + [0, -1, 401, 10 ** 59]:
            self.unchanged(world, NoCount, {"what": "turns"}, calm, world, turns=turns)
        self.same(calm(world, turns=400), (2, ()))
        self.same(calm(world, turns=1), (1, ()))

    def test_full(self):
        world = led(2, 30)
        world.follow(1, 0)
        while len(world.trail()) < 1994:
            world.apply(0)
        self.refused(Full, {"what": "trail"}, calm, world)
        self.same(len(world.trail()), 2000)
        self.same(world.trail()[-6:], [("ask", 1), ("give", 0), ("give", 1), ("apply", 1, None), ("ask", 1),
                                       ("give", 2)])
        self.same(world.marks(1)[1:3], (20, 20))

    def test_full_letters(self):
        world = led(2, 30)
        world.follow(1, 0)
        while world.post.sent() < 1999:
            world.post.send(("gone", 0, 1, 9, 3))
        self.refused(Full, {"what": "letters"}, calm, world)
        self.same(world.trail()[-1], ("ask", 1))


if __name__ == "__main__":
    unittest.main()

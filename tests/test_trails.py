"""Promises 2, 3, 34 and 40: a world made again of a trail."""

import random
import unittest

from laterline.errors import Behind, Full, LineError, NoCount, NoHouse, NoLeader, NoLetter, NoRule, Ring, Stopped
from laterline.trails import again
from laterline.words import read_line, show_line
from laterline.world import World
from tests.helpers import not_numbers, odd_things
from tests.model import program_does
from tests.runs import any_deed, run_of, seen_of_world
from tests.worlds import WorldCase, led, parted, write_rows

ROW = ("set", "a", 1)


class AgainTest(WorldCase):

    def test_of_nothing(self):
        self.assertTrue(again(3, []) == World(3))
        self.assertTrue(again(8, [], rule=("held", 7), room=1) == World(8, rule=("held", 7), room=1))

    def test_equal_to_the_other_one(self):
        for world, many in ((led(2, 30, followers=(1,)), 2), (parted(3), 3)):
            made = again(many, world.trail())
            self.assertTrue(made == world)
            self.assertIsNot(made, world)
            self.same(seen_of_world(made), seen_of_world(world))

    def test_each_deed(self):
        world = World(3, room=1)
        for deed in (("write", 0, ROW), ("follow", 1, 0), ("ask", 1), ("give", 0), ("give", 1), ("lose", 0),
                     ("apply", 1, None), ("apply", 1, 0), ("forget", 1, 1), ("trim", 0), ("free", 0, 1),
                     ("takeover", 1, (0, 2), False), ("takeover", 2, (2,), True), ("rejoin", 0, 1), ("renew", 0, 1)):
            self.same(program_does(world, deed)[0], "told")
            self.same(world.trail()[-1], deed)
            self.assertTrue(again(3, world.trail(), room=1) == world)

    def test_it_goes_on_alike(self):
        for seed in range(600, 615):
            world, model, _ = run_of(seed, 150, self)
            made = again(world.many(), world.trail(), rule=model.rule, room=model.room)
            self.assertTrue(made == world)
            dice = random.Random(seed)
            for _ in range(60):
                deed = any_deed(dice, model)
                self.assertEqual(repr(program_does(made, deed)), repr(program_does(world, deed)))
            self.assertTrue(made == world)
            self.same(seen_of_world(made), seen_of_world(world))

    def test_a_trail_by_way_of_lines(self):
        for seed in range(620, 626):
            world, model, _ = run_of(seed, 150, self)
            trail = [read_line(show_line(deed)) for deed in world.trail()]
            self.same(trail, world.trail())
            self.assertTrue(again(world.many(), trail, rule=model.rule, room=model.room) == world)

    def test_the_trail_stays_as_it_was(self):
        world = parted(3)
        trail = world.trail()
        kept = list(trail)
        made = again(3, trail)
        self.same(trail, kept)
        made.write(1, ROW)
        self.same(trail, kept)
        trail.clear()
        self.same(len(made.trail()), len(kept) + 1)
        self.same(world.trail(), kept)

    def test_2000_deeds(self):
        world = led(1, 400)
        while len(world.trail()) < 2000:
            world.apply(0)
        self.assertTrue(again(1, world.trail()) == world)


class StoppedTest(WorldCase):

    def stopped(self, many, trail, at, kind, **named):
        with self.assertRaises(Stopped) as caught:
            again(many, trail, **named)
        self.assertIs(type(caught.exception), Stopped)
        self.same(vars(caught.exception), {"at": at})
        self.assertIs(type(caught.exception.__cause__), kind)
        self.assertIsInstance(caught.exception.__cause__, LineError)
        return caught.exception.__cause__

    def test_at_each_place(self):
        write = ("write", 0, ROW)
        cause = self.stopped(2, [("give", 7)], 0, NoLetter)
        self.same(cause.number, 7)
        self.stopped(2, [write, ("write", 1, ROW), write], 1, NoLeader)
        self.stopped(2, [write, write, write, ("follow", 1, 1)], 3, Ring)
        self.stopped(2, [write, ("write", 1, ROW), ("give", 0)], 1, NoLeader)

    def test_of_another_world(self):
        world = led(3, 2, followers=(1, 2), rule=("held", 1))
        world.takeover(1, (2,))
        self.assertTrue(again(3, world.trail(), rule=("held", 1)) == world)
        at = world.trail().index(("follow", 2, 0))
        self.same(self.stopped(2, world.trail(), at, NoHouse, rule=("held", 1)).house, 2)
        world = led(2, 1)
        world.takeover(1, (0,), forced=True)
        trail = world.trail()
        trail[-1] = ("takeover", 1, (0,), False)
        self.same(self.stopped(2, trail, 1, Behind).house, 0)

    def test_one_deed_too_many(self):
        trail = [("apply", 0, 0)] * 2001
        self.same(self.stopped(1, trail, 2000, Full).what, "trail")
        self.same(len(again(1, trail[1:]).trail()), 2000)

    def test_the_trail_stays_as_it_was(self):
        trail = [("write", 0, ROW), ("give", 0)]
        self.stopped(2, trail, 1, NoLetter)
        self.same(trail, [("write", 0, ROW), ("give", 0)])

    def test_refused_as_a_world(self):
        for many in not_numbers() + [0, 9]:
            self.refused(NoCount, {"what": "many"}, again, many, [("give", 0)], rule=None, room=0)
        for rule in odd_things() + [("held", 8), ["written"]]:
            self.refused(NoRule, {}, again, 2, [("give", 0)], rule=rule, room=0)
        for room in not_numbers() + [0, 401]:
            self.refused(NoCount, {"what": "room"}, again, 2, [("give", 0)], room=room)

    def test_a_world_whose_rows_are_made_again_has_them_all(self):
        world = parted(3)
        write_rows(world, 1, 3)
        self.same(len(again(3, world.trail())), len(world))


if __name__ == "__main__":
    unittest.main()

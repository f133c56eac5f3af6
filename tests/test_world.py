"""Promises 2, 3, 22, 23 and 34: a world at the beginning, write, and what a world tells of itself."""

import copy
import inspect
import itertools
import unittest

from laterline import world as module
from laterline.errors import Full, NoCount, NoHouse, NoLeader, NoLetter, NoRow, NoRule
from laterline.world import World
from tests.helpers import Yes, not_numbers, odd_things
from tests.runs import RULES, seen_of_world
from tests.worlds import WorldCase, catch_up, led, parted, row_of, write_rows, wrong_houses

ROW = ("set", "a", 1)
WRONG_RULES = odd_things() + [(), [], ["written"], ("Written",), ("written", 1), ("held",), ("held", 0), ("held", 8),
                              ["held", 1], ("held", True), ("held", 1, 1), ("applied", "1"), (Yes(), 1), "written"]


def questions(world):
    return [world.history, world.log_rows, world.table, world.marks, world.slots, world.said, world.done,
            lambda house: world.read(house, "a")]


def deeds(world):
    """Each deed that a house does, of the house that is handed in."""
    return [lambda house: world.write(house, ROW), lambda house: world.follow(house, 1),
            lambda house: world.follow(1, house), world.ask, world.apply, lambda house: world.takeover(house, ()),
            lambda house: world.takeover(1, (house,)), lambda house: world.takeover(1, (2, house)),
            lambda house: world.rejoin(house, 1), lambda house: world.rejoin(1, house),
            lambda house: world.renew(house, 1), lambda house: world.renew(1, house), world.trim,
            lambda house: world.free(house, 1), lambda house: world.free(1, house),
            lambda house: world.forget(house, 0)]


class BeginningTest(WorldCase):

    def test_constants(self):
        self.same((module.ROWS, module.BATCH, module.TRAIL, module.ROOM), (400, 20, 2000, 40))

    def test_what_a_world_tells_at_first(self):
        for many, rule, room in itertools.product((1, 2, 8), RULES, (1, 40, 400)):
            world = World(many, rule=rule, room=room)
            self.same(world.many(), many)
            self.same(len(world), 0)
            self.same(world.lines(), [(0, 0, None, 0, False)])
            self.same(world.trail(), [])
            self.same(world.lying(), ())
            for house in range(many):
                self.same(world.history(house), ((0, 0),))
                self.same(world.log_rows(house), ())
                self.same(world.table(house), ())
                self.same(world.marks(house), (0, 0, 0, 0, 0, None, house == 0))
                self.same(world.slots(house), ())
                self.same(world.said(house), ())
                self.same(world.read(house, "a"), (None, (0, 0)))
            self.assertIsNone(world.done(0))

    def test_defaults(self):
        self.assertEqual(World(3), World(3, rule=("written",), room=40))
        self.assertNotEqual(World(3), World(3, room=41))
        self.assertNotEqual(World(3), World(3, rule=("held", 1)))

    def test_refused_in_order(self):
        for many in not_numbers() + [0, -1, 9, 10 ** 59]:
            self.refused(NoCount, {"what": "many"}, World, many)
            self.refused(NoCount, {"what": "many"}, World, many, rule=None, room=0)
        for rule in WRONG_RULES:
            self.refused(NoRule, {}, World, 3, rule=rule)
            self.refused(NoRule, {}, World, 1, rule=rule, room=0)
        for room in not_numbers() + [0, -1, 401, 10 ** 59]:
            self.refused(NoCount, {"what": "room"}, World, 8, room=room)

    def test_methods_stand_in_the_class_itself(self):
        for name in ("write follow ask give lose apply done takeover rejoin renew trim free forget read history "
                     "log_rows table marks slots said lines trail lying letter many __len__ __eq__ __init__").split():
            self.assertTrue(inspect.isfunction(vars(World)[name]), name)

    def test_rule_with_a_need_beyond_the_houses(self):
        world = led(2, 3, followers=(1,), rule=("held", 2))
        catch_up(world, 1)
        self.assertIsNone(world.done(0))
        world.takeover(1, ())
        self.same(world.lines()[-1], (1, 1, 0, 3, False))


class NoHouseTest(WorldCase):

    def test_of_each_question(self):
        for many in (1, 3):
            world = led(many, 2)
            for house in wrong_houses(many):
                for ask in questions(world):
                    self.unchanged(world, NoHouse, {"house": house}, ask, house)

    def test_of_each_deed(self):
        world = led(3, 2)
        for house in wrong_houses(3):
            for deed in deeds(world):
                self.unchanged(world, NoHouse, {"house": house}, deed, house)

    def test_first_house_goes_first(self):
        world = led(3, 2)
        for deed in (world.follow, world.rejoin, world.renew, world.free):
            self.unchanged(world, NoHouse, {"house": 3}, deed, 3, -1)
        self.unchanged(world, NoHouse, {"house": "0"}, world.takeover, "0", (9, 9))

    def test_ahead_of_all_else(self):
        world = led(3, 2)
        self.unchanged(world, NoHouse, {"house": 3}, world.write, 3, None)
        self.unchanged(world, NoHouse, {"house": 3}, world.apply, 3, many=-1)
        self.unchanged(world, NoHouse, {"house": 3}, world.forget, 3, None)
        self.unchanged(world, NoHouse, {"house": 3}, world.read, 3, None, at=-1, token=5)
        self.unchanged(world, NoHouse, {"house": 3}, world.follow, 0, 3)
        self.unchanged(world, NoHouse, {"house": 3}, world.takeover, 0, (3,))


class WriteTest(WorldCase):

    def test_by_a_house_that_leads(self):
        world = World(2)
        self.same(world.write(0, ("set", "b", 5)), (0, 1))
        self.same(world.write(0, ("set", "a", -10 ** 18)), (0, 2))
        self.same(world.write(0, ("cut", "b")), (0, 3))
        self.same(world.log_rows(0), ((0, 1, ("set", "b", 5)), (0, 2, ("set", "a", -10 ** 18)), (0, 3, ("cut", "b"))))
        self.same(world.table(0), (("a", -10 ** 18),))
        self.same(world.marks(0), (0, 3, 3, 0, 0, None, True))
        self.same(world.done(0), (0, 3, (0,)))
        self.same(world.read(0, "a"), (-10 ** 18, (0, 3)))
        self.same(len(world), 3)
        self.same(world.trail()[1], ("write", 0, ("set", "a", -10 ** 18)))
        self.same(world.marks(1), (0, 0, 0, 0, 0, None, False))

    def test_on_a_later_line(self):
        world = parted()
        self.same(world.write(1, ROW), (1, 9))
        self.same(world.write(0, ROW), (0, 9))
        self.same(world.log_rows(1)[-1], (1, 9, ROW))
        self.same(len(world), 5 + 3 + 3 + 2)

    def test_by_a_house_that_does_not_lead(self):
        world = led(3, 2, followers=(1,))
        self.unchanged(world, NoLeader, {}, world.write, 1, ROW)
        self.unchanged(world, NoLeader, {}, world.write, 2, ROW)

    def test_no_row(self):
        world = led(2, 2)
        for thing in odd_things() + [["cut", "a"], ("cut",), ("cut", "A"), ("set", "a", 10 ** 18 + 1),
                                     ("set", "a", True), ("set", "a"), ("cut", "a", 1), [ROW], (ROW,)]:
            self.unchanged(world, NoRow, {}, world.write, 0, thing)
            self.refused(NoRow, {}, world.write, 1, thing)

    def test_400_rows_and_one_more(self):
        world = led(2, 399)
        self.same(world.write(0, row_of(400)), (0, 400))
        self.unchanged(world, Full, {"what": "rows"}, world.write, 0, ROW)
        self.same(world.marks(0), (0, 400, 400, 0, 0, None, True))
        self.same(len(world), 400)
        self.same(world.log_rows(0), tuple((0, place, row_of(place)) for place in range(1, 401)))

    def test_400_rows_in_all_also_where_some_are_cut_off_or_of_another_line(self):
        world = led(2, 200)
        world.follow(1, 0)
        catch_up(world, 1)
        world.takeover(1, (0,))
        write_rows(world, 1, 200)
        world.free(1, 0)
        world.trim(1)
        self.same(world.marks(1), (400, 400, 400, 0, 1, None, True))
        self.unchanged(world, Full, {"what": "rows"}, world.write, 1, ROW)


class TellingTest(WorldCase):

    def test_lines(self):
        world = led(3, 4, followers=(1, 2))
        world.takeover(1, (0, 2))
        write_rows(world, 1, 2)
        world.takeover(2, (), forced=True)
        world.rejoin(0, 1)
        catch_up(world, 0)
        world.takeover(0, (1, 2))
        self.same(world.lines(), [(0, 0, None, 0, False), (1, 1, 0, 4, False), (2, 2, 0, 4, True), (3, 0, 1, 6, False)])

    def test_forced_only_where_it_was_not_within_the_rule(self):
        world = led(2, 1, followers=(1,))
        world.takeover(1, (0,), forced=True)
        self.same(world.lines()[-1], (1, 1, 0, 1, False))

    def test_trail_has_each_granted_deed_with_its_defaults(self):
        world = World(3, room=1)
        world.write(0, ROW)
        world.follow(1, 0)
        world.ask(1)
        world.give(0)
        world.give(1)
        world.lose(0)
        world.apply(1)
        world.apply(1, many=0)
        world.forget(1, 1)
        world.trim(0)
        world.free(0, 1)
        world.takeover(1, (0, 2))
        world.takeover(2, (2,), forced=True)
        world.rejoin(0, 1)
        world.renew(0, 1)
        self.same(world.trail(), [
            ("write", 0, ROW), ("follow", 1, 0), ("ask", 1), ("give", 0), ("give", 1), ("lose", 0), ("apply", 1, None),
            ("apply", 1, 0), ("forget", 1, 1), ("trim", 0), ("free", 0, 1), ("takeover", 1, (0, 2), False),
            ("takeover", 2, (2,), True), ("rejoin", 0, 1), ("renew", 0, 1)])

    def test_questions_and_refused_deeds_are_not_on_the_trail(self):
        world = led(2, 1)
        for question in questions(world):
            question(0)
        self.unchanged(world, NoLeader, {}, world.write, 1, ROW)
        self.same(world.trail(), [("write", 0, row_of(1))])

    def test_what_is_told_is_a_new_one_each_time(self):
        world = led(2, 2, followers=(1,))
        for tell in (world.lines, world.trail):
            told = tell()
            kept = list(told)
            told.clear()
            self.same(tell(), kept)
            tell().append(0)
            self.same(tell(), kept)

    def test_letters(self):
        world = led(2, 1, followers=(1,))
        lying = world.lying()
        self.same(lying, (0, 1, 2, 3))
        self.same(world.letter(0), ("want", 1, 0, 1, 0, 0, 0, ()))
        world.lose(0)
        self.same(world.lying(), (1, 2, 3))
        for number in not_numbers() + [0, 4, -1, 10 ** 59]:
            for call in (world.letter, world.give, world.lose):
                self.unchanged(world, NoLetter, {"number": number}, call, number)


class EqualTest(WorldCase):

    def test_alike(self):
        for make in (lambda: World(3), lambda: led(2, 5, followers=(1,)), parted):
            self.assertTrue(make() == make())
            self.assertFalse(make() != make())

    def test_unlike_at_the_beginning(self):
        worlds = [World(many, rule=rule, room=room) for many in (1, 2, 8) for rule in RULES for room in (1, 40)]
        for one, other in itertools.combinations(worlds, 2):
            self.assertFalse(one == other)

    def test_each_deed_makes_it_unlike(self):
        world = led(3, 3, followers=(1, 2))
        world.takeover(1, (0, 2))
        deeds_of = [lambda one: one.write(1, ROW), lambda one: one.follow(2, 1), lambda one: one.give(0),
                    lambda one: one.lose(0), lambda one: one.lose(1), lambda one: one.apply(0),
                    lambda one: one.apply(0, many=0), lambda one: one.apply(1), lambda one: one.takeover(2, (0, 1)),
                    lambda one: one.takeover(2, (1, 0)), lambda one: one.rejoin(0, 1), lambda one: one.renew(0, 1),
                    lambda one: one.trim(0), lambda one: one.free(0, 1), lambda one: one.free(0, 2),
                    lambda one: one.forget(0, 1)]
        worlds = [world]
        for deed in deeds_of:
            worlds.append(copy.deepcopy(world))
            deed(worlds[-1])
        for one, other in itertools.combinations(worlds, 2):
            self.assertFalse(one == other)

    def test_each_part_counts(self):
        def change(deed):
            world = parted()
            deed(world)
            self.assertFalse(world == parted())
            self.assertFalse(parted() == world)

        change(lambda world: world.houses[0].own_log.put(ROW))
        change(lambda world: world.houses[0].own_log.trim(1))
        change(lambda world: world.houses[0].own_log.adopt(((0, 0), (3, 8))))
        change(lambda world: world.houses[0].state.do(ROW))
        change(lambda world: world.houses[0].state.forget(1))
        change(lambda world: world.houses[0].own_slots.anew(1, 0))
        change(lambda world: world.houses[0].book.note((1, 3, 1, 1)))
        change(lambda world: setattr(world.houses[0], "promise", 9))
        change(lambda world: setattr(world.houses[0], "followed", 1))
        change(lambda world: setattr(world.houses[2], "followed_under", 99))
        change(lambda world: setattr(world.houses[0], "leads", False))
        change(lambda world: world.post.lose(0))
        change(lambda world: world.post.send(("gone", 0, 1, 1, 0)))
        change(lambda world: setattr(world, "passes", 99))
        change(lambda world: world.begun_lines.append((2, 2, 0, 0, False)))
        change(lambda world: world.deeds.append(("apply", 0, None)))

    def test_other_things(self):
        world = led(2, 1)
        for thing in odd_things() + [world.trail(), seen_of_world(world), 1]:
            self.assertIs(World.__eq__(world, thing), False)

    def test_a_world_stays_when_another_goes_on(self):
        one, other = led(2, 2), led(2, 2)
        one.write(0, ROW)
        self.same(len(other), 2)
        self.same(other.log_rows(0), ((0, 1, row_of(1)), (0, 2, row_of(2))))


class FullTrailTest(WorldCase):

    def full(self):
        """A trail of 1,999 deeds, and one more."""
        world = led(3, 3, followers=(1,))
        while len(world.trail()) < 2000:
            world.apply(0, many=0)
        return world

    def test_2000_deeds_and_one_more(self):
        world = self.full()
        self.same(len(world.trail()), 2000)
        full = {"what": "trail"}
        for deed, told in ((world.write, (0, ROW)), (world.follow, (1, 0)), (world.ask, (1,)), (world.give, (0,)),
                           (world.give, (1,)), (world.lose, (0,)), (world.apply, (1,)), (world.takeover, (1, (0, 2))),
                           (world.rejoin, (1, 0)), (world.renew, (1, 0)), (world.trim, (0,)), (world.free, (0, 1)),
                           (world.forget, (0, 1))):
            self.unchanged(world, Full, full, deed, *told)

    def test_an_elder_letter_too(self):
        world = led(3, 3, followers=(1,))
        world.follow(1, 0)
        while len(world.trail()) < 2000:
            world.apply(0, many=0)
        self.unchanged(world, Full, {"what": "trail"}, world.give, 0)

    def test_behind_all_else(self):
        world = self.full()
        self.unchanged(world, NoHouse, {"house": 3}, world.apply, 3)
        self.unchanged(world, NoLeader, {}, world.write, 1, ROW)
        self.unchanged(world, NoLetter, {"number": 99}, world.give, 99)
        self.unchanged(world, NoLetter, {"number": 99}, world.lose, 99)
        self.unchanged(world, NoCount, {"what": "many"}, world.apply, 0, many=-1)

    def test_questions_go_on(self):
        world = self.full()
        self.same(world.done(0), (0, 3, (0, 1)))
        self.same(world.read(0, "k"), (3, (0, 3)))


if __name__ == "__main__":
    unittest.main()

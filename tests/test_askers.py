"""Promises 2, 3, 33 and 37: askers and the tokens that they hand on."""

import inspect
import unittest

from laterline.askers import KEPT, Asker
from laterline.errors import Backward, NoHouse, NoKey, NoMoment, Parted, TooEarly, TooOld
from tests.helpers import not_numbers, odd_things
from tests.worlds import WorldCase, catch_up, exchange, led, parted, row_of, write_rows, wrong_houses


class AskerTest(WorldCase):

    def untouched(self, asker, kind, fields, *told, **named):
        """The reading is refused and changes nothing, neither the asker nor the world."""
        token, readings = asker.token(), asker.readings()
        self.unchanged(asker.asked_world, kind, fields, asker.read, *told, **named)
        self.same((asker.token(), asker.readings(), len(asker)), (token, readings, len(readings)))

    def test_at_first(self):
        self.same(KEPT, 100)
        asker = Asker(led(2, 3))
        self.same(asker.token(), (0, 0))
        self.same(asker.readings(), [])
        self.same(len(asker), 0)

    def test_methods_stand_in_the_class_itself(self):
        for name in ("read", "token", "readings", "__len__", "__init__"):
            self.assertTrue(inspect.isfunction(vars(Asker)[name]), name)

    def test_the_token_is_handed_on(self):
        world = led(2, 4)
        asker = Asker(world)
        self.same(asker.read(0, "k", at=2), 2)
        self.same(asker.token(), (0, 2))
        self.same(asker.read(0, "other"), None)
        self.same(asker.token(), (0, 4))
        self.same(asker.read(0, "k", at=4), 4)
        self.same(asker.readings(), [(0, "k", 2, (0, 2)), (0, "other", None, (0, 4)), (0, "k", 4, (0, 4))])
        self.same(len(asker), 3)

    def test_it_never_sees_an_elder_moment(self):
        world = led(2, 4)
        world.follow(1, 0)
        exchange(world, 1)
        world.apply(1, many=3)
        asker = Asker(world)
        asker.read(0, "k")
        self.untouched(asker, TooEarly, {"place": 3}, 1, "k")
        self.untouched(asker, Backward, {"place": 4}, 0, "k", at=3)
        world.apply(1)
        self.same(asker.read(1, "k"), 4)

    def test_a_world_that_goes_on(self):
        world = led(1, 1)
        asker = Asker(world)
        for place in range(2, 20):
            write_rows(world, 0, 1)
            self.same(asker.read(0, "k"), place if place % 5 else None)
            self.same(asker.token(), (0, place))

    def test_refused_in_order(self):
        world = led(2, 6)
        world.forget(0, 2)
        asker = Asker(world)
        for house in wrong_houses(2):
            self.untouched(asker, NoHouse, {"house": house}, house, None, at=-1)
        for key in odd_things():
            self.untouched(asker, NoKey, {}, 0, key, at=-1)
        for at in [thing for thing in not_numbers() if thing is not None] + [-1]:
            self.untouched(asker, NoMoment, {}, 0, "k", at=at)
        self.untouched(asker, TooEarly, {"place": 6}, 0, "k", at=7)
        self.untouched(asker, TooOld, {"since": 2}, 0, "k", at=1)
        asker.read(0, "k", at=4)
        self.untouched(asker, Backward, {"place": 4}, 0, "k", at=1)
        self.untouched(asker, TooEarly, {"place": 0}, 1, "k", at=0)
        self.same(asker.token(), (0, 4))

    def test_refused_between_granted_ones(self):
        asker = Asker(led(1, 6))
        for at in (1, 3, 2, 3, 0, 6, 5):
            if at >= asker.token()[1]:
                asker.read(0, "k", at=at)
            else:
                self.untouched(asker, Backward, {"place": asker.token()[1]}, 0, "k", at=at)
        self.same([reading[3] for reading in asker.readings()], [(0, 1), (0, 3), (0, 3), (0, 6)])

    def test_over_a_takeover(self):
        world = parted(3)
        asker = Asker(world)
        self.same(asker.read(2, "k", at=5), None)
        self.same(asker.read(1, "k"), 8)
        self.same(asker.token(), (1, 8))
        self.untouched(asker, Parted, {}, 0, "k")
        self.same(asker.read(2, "k"), 8)

    def test_over_a_rejoining(self):
        world = parted(3)
        one, other = Asker(world), Asker(world)
        one.read(0, "k")
        other.read(0, "k", at=5)
        world.rejoin(0, 1)
        self.untouched(one, Parted, {}, 0, "k")
        self.same(other.read(0, "k"), None)
        self.same(other.token(), (0, 5))
        catch_up(world, 0)
        self.untouched(one, Parted, {}, 0, "k")
        self.untouched(one, Parted, {}, 1, "k")
        self.same(other.read(0, "k"), 8)
        self.same(other.token(), (1, 8))

    def test_over_a_renewing(self):
        world = parted(3)
        one, other = Asker(world), Asker(world)
        one.read(0, "k")
        other.read(1, "k", at=6)
        world.renew(0, 1)
        self.untouched(one, Parted, {}, 0, "k")
        self.untouched(other, TooOld, {"since": 8}, 0, "k", at=7)
        self.same(other.read(0, "k"), 8)

    def test_readings_of_more_than_100(self):
        world = led(1, 150)
        asker = Asker(world)
        for at in range(1, 100):
            asker.read(0, "k", at=at)
        self.same(len(asker), 99)
        for at in range(100, 151):
            asker.read(0, "k", at=at)
            self.same(len(asker), 100)
        self.same(asker.readings(), [(0, "k", at if at % 5 else None, (0, at)) for at in range(51, 151)])

    def test_what_was_told_may_be_changed(self):
        asker = Asker(led(1, 6))
        asker.read(0, "k")
        for change in (lambda told: told.clear(), lambda told: told.append(0)):
            change(asker.readings())
            self.same(asker.readings(), [(0, "k", 6, (0, 6))])
            self.same(len(asker), 1)

    def test_askers_are_apart(self):
        world = led(1, 6)
        one, other = Asker(world), Asker(world)
        one.read(0, "k")
        self.same((other.token(), other.readings()), ((0, 0), []))
        self.same(other.read(0, "k", at=1), 1)
        self.same(row_of(1), ("set", "k", 1))


if __name__ == "__main__":
    unittest.main()

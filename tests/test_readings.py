"""Promises 2, 3 and 33: read and its token."""

import unittest

from laterline.errors import Backward, NoKey, NoMoment, NoToken, Parted, TooEarly, TooOld
from laterline.world import World
from tests.helpers import not_numbers, odd_things
from tests.worlds import WorldCase, exchange, led, parted, write_rows

WRONG_TOKENS = [thing for thing in odd_things() if thing is not None] + [
    (), (0,), (0, 0, 0), [0, 0], ((0, 0),), "00", (True, 0), (0, True), (False, False), (-1, 0), (0, -1),
    (10 ** 9 + 1, 0), (0, 10 ** 6 + 1), (None, None), ("0", "0"), {0: 0}, {0, 1}, range(2), 0]


def behind():
    """House 1 follows house 0, which wrote 9 rows, and holds them, but applied only 6; it forgot all ahead of 2."""
    world = led(2, 9)
    world.follow(1, 0)
    exchange(world, 1)
    world.apply(1, many=6)
    world.forget(1, 2)
    return world


class GrantedTest(WorldCase):

    def test_the_last_moment(self):
        world = led(2, 4)
        self.same(world.read(0, "k"), (4, (0, 4)))
        self.same(world.read(0, "k", at=None, token=None), (4, (0, 4)))
        self.same(world.read(0, "other"), (None, (0, 4)))
        self.same(world.read(1, "k"), (None, (0, 0)))

    def test_each_moment(self):
        world = led(1, 6)
        for at, value in ((0, None), (1, 1), (2, 2), (4, 4), (5, None), (6, 6)):
            self.same(world.read(0, "k", at=at), (value, (0, at)))

    def test_the_oldest_and_the_last_moment(self):
        world = behind()
        self.same(world.read(1, "k", at=2), (2, (0, 2)))
        self.same(world.read(1, "k", at=6), (6, (0, 6)))
        self.same(world.read(1, "k"), (6, (0, 6)))

    def test_tokens_of_several_lines(self):
        world = parted(3)
        self.same([world.read(1, "k", at=at)[1] for at in (0, 5, 6, 8)], [(0, 0), (0, 5), (1, 6), (1, 8)])

    def test_a_token_is_handed_on(self):
        world = parted(3)
        for token in (None, (0, 0), (0, 3), (0, 5), (1, 6), (1, 8)):
            self.same(world.read(2, "k", token=token), (8, (1, 8)))
            self.same(world.read(2, "k", at=8, token=token), (8, (1, 8)))
        self.same(world.read(2, "k", at=3, token=(0, 3)), (3, (0, 3)))

    def test_of_rows_that_are_cut_off(self):
        world = parted(3)
        world.free(1, 2)
        world.trim(1)
        self.same(world.read(1, "k", at=7, token=(1, 6)), (7, (1, 7)))
        self.refused(Parted, {}, world.read, 1, "k", token=(0, 6))

    def test_a_renewed_house(self):
        world = parted(3)
        world.renew(0, 1)
        self.same(world.read(0, "k", token=(1, 8)), (8, (1, 8)))
        self.same(world.read(0, "k", token=(0, 5)), (8, (1, 8)))

    def test_it_is_a_question(self):
        world = led(1, 3)
        many = len(world.trail())
        world.read(0, "k")
        self.same(len(world.trail()), many)


class RefusedTest(WorldCase):

    def test_no_key(self):
        world = behind()
        for key in odd_things() + ["K", "a" * 13, "a b", ("k",), "k\n"]:
            self.unchanged(world, NoKey, {}, world.read, 1, key)
            self.refused(NoKey, {}, world.read, 1, key, at=-1, token=5)

    def test_no_moment(self):
        world = behind()
        for at in [thing for thing in not_numbers() if thing is not None] + [-1, -10 ** 59]:
            self.unchanged(world, NoMoment, {}, world.read, 1, "k", at=at)
            self.refused(NoMoment, {}, world.read, 1, "k", at=at, token=5)

    def test_no_token(self):
        world = behind()
        for token in WRONG_TOKENS:
            self.unchanged(world, NoToken, {}, world.read, 1, "k", token=token)
            self.refused(NoToken, {}, world.read, 1, "k", at=99, token=token)

    def test_parted_by_the_line_of_a_row(self):
        world = parted(3)
        for house, token in ((0, (1, 6)), (0, (1, 8)), (1, (0, 6)), (1, (0, 8)), (1, (1, 5)), (1, (2, 8)), (0, (9, 1)),
                             (2, (10 ** 9, 3))):
            self.unchanged(world, Parted, {}, world.read, house, "k", token=token)
            self.unchanged(world, Parted, {}, world.read, house, "k", token=token, at=0)
            self.unchanged(world, Parted, {}, world.read, house, "k", token=token, at=99)

    def test_parted_at_place_0(self):
        world = parted(3)
        self.unchanged(world, Parted, {}, world.read, 1, "k", token=(1, 0))
        self.unchanged(world, Parted, {}, World(1).read, 0, "k", token=(3, 0))
        self.same(world.read(1, "k", token=(0, 0)), (8, (1, 8)))

    def test_behind_the_end_by_what_the_history_says(self):
        world = parted(3)
        self.same(world.history(1), ((0, 0), (1, 5)))
        self.unchanged(world, Parted, {}, world.read, 1, "k", token=(0, 9))
        self.unchanged(world, TooEarly, {"place": 8}, world.read, 1, "k", token=(1, 9))
        self.unchanged(world, TooEarly, {"place": 8}, world.read, 1, "k", token=(2, 9))
        self.unchanged(world, TooEarly, {"place": 8}, world.read, 1, "k", token=(2, 10 ** 6))
        self.unchanged(world, TooEarly, {"place": 8}, world.read, 0, "k", token=(0, 9))
        self.unchanged(world, TooEarly, {"place": 8}, world.read, 0, "k", token=(1, 9))

    def test_behind_the_end_where_a_line_is_known_that_has_no_row_yet(self):
        world = parted(3)
        world.rejoin(0, 1)
        self.same((world.marks(0)[1], world.history(0)), (5, ((0, 0), (1, 5))))
        self.unchanged(world, Parted, {}, world.read, 0, "k", token=(0, 6))
        self.unchanged(world, TooEarly, {"place": 5}, world.read, 0, "k", token=(1, 6))
        self.same(world.read(0, "k", token=(0, 5)), (None, (0, 5)))

    def test_too_early(self):
        world = behind()
        self.unchanged(world, TooEarly, {"place": 6}, world.read, 1, "k", at=7)
        self.unchanged(world, TooEarly, {"place": 6}, world.read, 1, "k", at=10 ** 59)
        self.unchanged(world, TooEarly, {"place": 6}, world.read, 1, "k", token=(0, 7))
        self.unchanged(world, TooEarly, {"place": 6}, world.read, 1, "k", token=(0, 9))
        self.unchanged(world, TooEarly, {"place": 6}, world.read, 1, "k", token=(0, 10))
        self.unchanged(world, TooEarly, {"place": 6}, world.read, 1, "k", token=(0, 7), at=3)
        self.unchanged(world, TooEarly, {"place": 6}, world.read, 1, "k", token=(0, 7), at=0)
        self.unchanged(world, TooEarly, {"place": 6}, world.read, 1, "k", token=(0, 3), at=7)

    def test_backward(self):
        world = behind()
        self.unchanged(world, Backward, {"place": 5}, world.read, 1, "k", at=4, token=(0, 5))
        self.unchanged(world, Backward, {"place": 5}, world.read, 1, "k", at=0, token=(0, 5))
        self.same(world.read(1, "k", at=5, token=(0, 5)), (None, (0, 5)))

    def test_too_old(self):
        world = behind()
        for at in (0, 1):
            self.unchanged(world, TooOld, {"since": 2}, world.read, 1, "k", at=at)
            self.unchanged(world, TooOld, {"since": 2}, world.read, 1, "k", at=at, token=(0, at))
            self.unchanged(world, TooOld, {"since": 2}, world.read, 1, "k", at=1, token=(0, 1))

    def test_an_asker_sees_no_log_that_has_parted(self):
        world = parted(3)
        value, token = world.read(0, "k")
        self.same((value, token), (8, (0, 8)))
        world.rejoin(0, 1)
        self.unchanged(world, Parted, {}, world.read, 0, "k", token=token)
        exchange(world, 0)
        world.apply(0)
        self.unchanged(world, Parted, {}, world.read, 0, "k", token=token)
        write_rows(world, 1, 1)
        self.unchanged(world, Parted, {}, world.read, 1, "k", token=token)


if __name__ == "__main__":
    unittest.main()

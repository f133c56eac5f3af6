"""What the tests of worlds share: worlds brought to a state, and a case that asks for refusals in them."""

import copy

from laterline.world import World
from tests.helpers import Case, not_numbers
from tests.runs import seen_of_world


def row_of(number):
    return ("set", "k", number) if number % 5 else ("cut", "k")


def write_rows(world, house, many):
    """Let a house that leads write so many rows, each of which bears its place."""
    end = world.marks(house)[1]
    for place in range(end + 1, end + many + 1):
        world.write(house, row_of(place))


def exchange(world, house):
    """Let a house ask, and be answered; tell what came of the answer."""
    return world.give(world.give(world.ask(house))[1])


def catch_up(world, house):
    """Let a house take over all rows of the one it follows, and apply them."""
    while exchange(world, house)[1] > 0:
        pass
    world.apply(house)


def led(many, rows, *, followers=(), **named):
    """A world in which house 0 wrote so many rows, and the followers follow it and hold and applied them."""
    world = World(many, **named)
    write_rows(world, 0, rows)
    for house in followers:
        world.follow(house, 0)
        catch_up(world, house)
    return world


def parted(behind=3, **named):
    """House 0 led line 0 and wrote so many rows that house 1, which took over at place 5, does not have.

    House 1 wrote rows on line 1 up to the same place, and house 2 follows it and holds them all.
    """
    world = led(3, 5, followers=(1, 2), **named)
    world.takeover(1, (1, 2), forced=True)
    write_rows(world, 0, behind)
    write_rows(world, 1, behind)
    world.follow(2, 1)
    catch_up(world, 2)
    return world


def wrong_houses(many):
    """Things that are no houses of a world of so many."""
    return not_numbers() + [-1, many, 8, 10 ** 59, -10 ** 59]


class WorldCase(Case):

    def unchanged(self, world, kind, fields, call, *told, **named):
        """The call is refused and leaves all as it was, what can be asked and what can't."""
        before, seen = copy.deepcopy(world), repr(seen_of_world(world))
        self.refused(kind, fields, call, *told, **named)
        self.assertTrue(world == before)
        self.assertEqual(repr(seen_of_world(world)), seen)

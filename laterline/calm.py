"""Calm: turns in which all that follow ask and apply, till nothing new comes."""

from laterline.counts import require_within
from laterline.errors import Restless

TURNS = 40
MOST_TURNS = 400


def follows(world, house):
    """Whether a house follows another one."""
    return world.marks(house)[5] is not None


def catch_up(world, house):
    """Let a house ask, be answered and apply what it holds; tell what came back."""
    answered = world.give(world.ask(house))
    came = world.give(answered[1])
    world.apply(house)
    return came


def turn_of(world):
    """Let each house that follows catch up once; tell how many rows were new, and who was told gone."""
    new = 0
    gone = []
    for house in range(world.many()):
        if follows(world, house):
            word, number = catch_up(world, house)
            if word == "gone":
                gone.append(house)
            else:
                new += number
    return (new, tuple(gone))


def calm(world, *, turns=TURNS):
    """Do turns till one brings no new row; tell how many were done, and who was told gone in the last one."""
    require_within(turns, 1, MOST_TURNS, "turns")
    for done in range(1, turns + 1):
        new, gone = turn_of(world)
        if new == 0:
            return (done, gone)
    raise Restless(turns)

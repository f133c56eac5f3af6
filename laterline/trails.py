"""A world made again of the trail of another one."""

from laterline.deeds import do_deed
from laterline.errors import LineError, Stopped
from laterline.rules import WRITTEN
from laterline.world import ROOM, World


def again(many, trail, *, rule=WRITTEN, room=ROOM):
    """A new world in which all deeds of a trail are done."""
    world = World(many, rule=rule, room=room)
    for at, deed in enumerate(trail):
        try:
            do_deed(world, deed)
        except LineError as refusal:
            raise Stopped(at) from refusal
    return world

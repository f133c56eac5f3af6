"""Slots: what followers need yet of a log, and what may be cut of it."""

from laterline.counts import is_within, require_within
from laterline.errors import NoPlace
from laterline.lines import require_place
from laterline.rules import require_house

MOST_ROOM = 400


def require_room(room):
    """Refuse what is no room for slots."""
    require_within(room, 1, MOST_ROOM, "room")


def cut_of(room, slots, end, applied):
    """Up to where rows may be cut, and the houses whose slots are broken by this."""
    require_room(room)
    require_place(end)
    if not is_within(applied, 0, end):
        raise NoPlace(applied)
    broken = [house for house, place in slots if place + room < end]
    left = [place for house, place in slots if place + room >= end]
    return (min([*left, applied]), tuple(sorted(broken)))


class Slots:
    """The slots on a house's log, one for each house that has one."""

    def __init__(self, room):
        require_room(room)
        self.room = room
        self.places = {}

    def hold(self, house, place):
        """Set a house's slot to a place, if that is not less than the one it has."""
        require_house(house)
        require_place(place)
        self.places[house] = max(place, self.places.get(house, 0))

    def anew(self, house, place):
        """Set a house's slot to a place, whatever it was."""
        require_house(house)
        require_place(place)
        self.places[house] = place

    def free(self, house):
        """Take a house's slot away, if there is one."""
        require_house(house)
        if house in self.places:
            del self.places[house]

    def held(self):
        """The slots as pairs of a house and a place, houses rising."""
        return tuple([(house, self.places[house]) for house in sorted(self.places)])

    def cut_for(self, end, applied):
        """Break the slots that need more than the room; tell up to where rows may be cut, and whose were broken."""
        floor, broken = cut_of(self.room, self.held(), end, applied)
        for house in broken:
            del self.places[house]
        return (floor, broken)

    def __len__(self):
        return len(self.places)

    def __eq__(self, other):
        return isinstance(other, Slots) and self.room == other.room and self.places == other.places

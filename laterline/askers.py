"""Askers: whoever reads from houses and never wants to see an elder moment than was seen."""

from laterline.readings import NOTHING_SEEN

KEPT = 100


class Asker:
    """Reads from the houses of one world, and hands on the token of the last granted reading."""

    def __init__(self, world):
        self.asked_world = world
        self.last_token = NOTHING_SEEN
        self.kept_readings = []

    def read(self, house, key, *, at=None):
        """A key's value at a moment of a house, or None."""
        value, token = self.asked_world.read(house, key, at=at, token=self.last_token)
        self.last_token = token
        self.kept_readings.append((house, key, value, token))
        self.kept_readings = self.kept_readings[-KEPT:]
        return value

    def token(self):
        """The token of the last granted reading."""
        return self.last_token

    def readings(self):
        """The last readings: (house, key, value, token) of each."""
        return list(self.kept_readings)

    def __len__(self):
        return len(self.kept_readings)

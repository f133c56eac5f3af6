"""A house of a world: what it has, and which lines it may begin."""

from laterline.books import Book
from laterline.logs import Log
from laterline.slots import Slots
from laterline.states import State


class House:
    """One house: its log, table, slots and book, what it promised, whether it leads and whom it follows."""

    def __init__(self, number, room):
        self.number = number
        self.own_log = Log()
        self.state = State()
        self.own_slots = Slots(room)
        self.book = Book()
        self.promise = 0
        # Line 0 is there from the beginning, and it is house 0's.
        self.leads = number == 0
        self.followed = None
        self.followed_under = None


def first_houses(many, room):
    """So many houses as they are at the beginning of a world."""
    return [House(number, room) for number in range(many)]


def may_begin(house, many, line):
    """Whether a house of so many ones may begin that line: so no line is begun by two houses."""
    return line % many == house


def next_line(house, many, above):
    """The least line greater than that number that a house of so many ones may begin."""
    return above + 1 + (house - above - 1) % many

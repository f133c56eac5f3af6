"""A house of a world: what it has, what it does by itself, and which lines it may begin."""

from laterline.books import Book
from laterline.lines import standing
from laterline.logs import Log
from laterline.partings import parting
from laterline.slots import Slots
from laterline.states import State


class House:
    """One house: its log, table, slots and book, what it promised, whether it leads and whom it follows."""

    def __init__(self, number, room):
        self.number = number
        self.own_log = Log()
        self.state = State()
        self.own_slots = Slots(room)
        self.book = Book()
        self.promise = 0
        # Line 0 is there from the beginning, and it is house 0's.
        self.leads = number == 0
        self.followed = None
        self.followed_under = None

    def applied(self):
        """How many rows of its log it has applied."""
        return self.state.moment()

    def stands_at(self):
        """The line of its last row, and its end."""
        return standing(self.own_log.history(), self.own_log.end())

    def rows_left(self, place):
        """The rows behind a place that its log has yet, with their lines and places."""
        return self.own_log.written_rows(max(place, self.own_log.floor()))

    def write_row(self, row):
        """Put a row at the end and apply it; tell its line and place."""
        place = self.own_log.put(row)
        self.state.do(row)
        return (self.own_log.line(), place)

    def apply_rows(self, many):
        """Apply the next rows that it holds, at most so many, or all; tell how many."""
        rows = self.own_log.rows(self.applied(), many=many)
        for row in rows:
            self.state.do(row)
        return len(rows)

    def follow_nobody(self):
        """Follow nobody any more."""
        self.followed = None
        self.followed_under = None

    def raise_promise(self):
        """Promise the line of its history, if that is greater than what it promised."""
        self.promise = max(self.promise, self.own_log.line())

    def begin_line(self, line):
        """Begin a line at the end of its log, and lead it."""
        self.own_log.fork(line)
        self.apply_rows(None)
        self.leads = True
        self.follow_nobody()

    def yield_to(self, taker):
        """Let the house that took over lead: follow it, if it did so already, or nobody."""
        self.leads = False
        if self.followed != taker:
            self.follow_nobody()

    def give_up(self, place):
        """Give up the rows behind a place, the applied ones too, and tell them."""
        if self.applied() > place:
            self.state.go_back(place)
        return self.own_log.cut_back(place)

    def begin_anew(self, other):
        """Begin with what another house has applied, and no rows; tell up to where that is."""
        place = other.applied()
        self.own_log = Log(history=other.own_log.history(), floor=place)
        self.state = State(base=place, table=other.state.table())
        return place

    def __eq__(self, other):
        return (isinstance(other, House) and self.number == other.number and self.own_log == other.own_log
                and self.state == other.state and self.own_slots == other.own_slots and self.book == other.book
                and self.promise == other.promise and self.leads == other.leads
                and self.followed == other.followed and self.followed_under == other.followed_under)


def first_houses(many, room):
    """So many houses as they are at the beginning of a world."""
    return [House(number, room) for number in range(many)]


def common_place(one, other):
    """The last place that the logs of two houses have in common."""
    return parting(one.own_log.history(), one.own_log.end(), other.own_log.history(), other.own_log.end())


def may_begin(house, many, line):
    """Whether a house of so many ones may begin that line: so no line is begun by two houses."""
    return line % many == house


def next_line(house, many, above):
    """The least line greater than that number that a house of so many ones may begin."""
    return above + 1 + (house - above - 1) % many

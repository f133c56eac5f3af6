"""A log: the rows behind a floor, and the history that tells their lines."""

from laterline.counts import is_count, is_within
from laterline.errors import Gap, NoCount, NoPlace, NoRow, TooOld
from laterline.lines import ROOT, extended, line_at, require_history, require_place
from laterline.rows import is_row


class Log:
    """Rows that stand one behind another; those up to the floor are cut off."""

    def __init__(self, *, history=ROOT, floor=0):
        require_history(history)
        require_place(floor)
        self.past = history
        self.cut_off = floor
        self.kept_rows = []

    def end(self):
        """The place of the last row."""
        return self.cut_off + len(self.kept_rows)

    def floor(self):
        """The place up to which rows are cut off."""
        return self.cut_off

    def line(self):
        """The line of the history."""
        return self.past[-1][0]

    def history(self):
        """The history."""
        return self.past

    def require_kept_from(self, place):
        """Refuse a place behind which this log can't tell all its rows."""
        if not is_within(place, 0, self.end()):
            raise NoPlace(place)
        if place < self.cut_off:
            raise TooOld(self.cut_off)

    def row(self, place):
        """The row of that place."""
        if is_within(place, 1, self.cut_off):
            raise TooOld(self.cut_off + 1)
        if not is_within(place, 1, self.end()):
            raise NoPlace(place)
        return self.kept_rows[place - self.cut_off - 1]

    def put(self, row):
        """Add a row at the end, and tell its place."""
        if not is_row(row):
            raise NoRow()
        self.kept_rows.append(row)
        return self.end()

    def rows(self, place, *, many=None):
        """The rows behind that place, at most so many."""
        self.require_kept_from(place)
        if many is not None and not is_count(many):
            raise NoCount("many")
        behind = self.kept_rows[place - self.cut_off:]
        return tuple(behind if many is None else behind[:many])

    def add_rows(self, history, place, rows):
        """Add what another log, of which this one is a beginning, has behind this one's end; tell how many."""
        end = self.end()
        if not is_within(place, 0, end):
            raise Gap(end)
        self.kept_rows.extend(rows[end - place:])
        if history[-1][0] > self.line():
            self.past = history
        return self.end() - end

    def written_rows(self, place):
        """The rows behind that place, with their lines and places."""
        behind = self.rows(place)
        return tuple([(line_at(self.past, at), at, row) for at, row in enumerate(behind, start=place + 1)])

    def cut_back(self, place):
        """Give up all rows behind a place, and tell them with their lines and places."""
        given_up = self.written_rows(place)
        del self.kept_rows[place - self.cut_off:]
        return given_up

    def fork(self, line):
        """Begin a line at the end."""
        end = self.end()
        own = tuple([pair for pair in self.past if pair[1] <= end])
        self.past = extended(own, line, end)

    def adopt(self, history):
        """Put another history, which says the same of all rows here, in the place of the own one."""
        self.past = history

    def trim(self, place):
        """Cut off all rows up to a place, which is the floor then."""
        if not is_within(place, self.cut_off, self.end()):
            raise NoPlace(place)
        del self.kept_rows[:place - self.cut_off]
        self.cut_off = place

    def __len__(self):
        return len(self.kept_rows)

    def __eq__(self, other):
        return (isinstance(other, Log) and self.past == other.past and self.cut_off == other.cut_off
                and self.kept_rows == other.kept_rows)

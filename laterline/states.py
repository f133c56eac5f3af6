"""A table by moments: what each key was at each moment that is kept."""

from laterline.counts import is_count, is_place
from laterline.errors import NoKey, NoMoment, NoPlace, NoRow, NoTable, TooEarly, TooOld
from laterline.rows import is_key, is_row, is_table, value_left


def changes_up_to(changes, moment):
    """How many of a key's changes stand at that moment or ahead of it."""
    low = 0
    high = len(changes)
    while low < high:
        middle = (low + high) // 2
        if changes[middle][0] <= moment:
            low = middle + 1
        else:
            high = middle
    return low


def value_at(changes, moment):
    """The value that a key with these changes had at that moment, or None."""
    many = changes_up_to(changes, moment)
    return changes[many - 1][1] if many > 0 else None


def changes_from(changes, moment):
    """A key's changes where that moment is the oldest one."""
    value = value_at(changes, moment)
    first = [] if value is None else [(moment, value)]
    return first + changes[changes_up_to(changes, moment):]


class State:
    """A table that begins at a base and keeps all moments from its oldest one on."""

    def __init__(self, *, base=0, table=()):
        if not is_place(base):
            raise NoPlace(base)
        if not is_table(table):
            raise NoTable()
        self.base = base
        self.kept_from = base
        # No key stands here without a change, so that equal states have equal dicts.
        self.changes = {key: [(base, value)] for key, value in table}
        # The key of each row behind the oldest moment: going back must know whose change to undo.
        self.done_keys = []

    def do(self, row):
        """Do a row, and tell the new moment."""
        if not is_row(row):
            raise NoRow()
        key = row[1]
        self.done_keys.append(key)
        self.changes.setdefault(key, []).append((self.moment(), value_left(row)))
        return self.moment()

    def moment(self):
        """The last moment."""
        return self.kept_from + len(self.done_keys)

    def oldest(self):
        """The oldest moment that is kept."""
        return self.kept_from

    def require_kept(self, moment):
        """Refuse what is no moment from the oldest to the last one."""
        if not is_count(moment):
            raise NoMoment()
        if moment > self.moment():
            raise TooEarly(self.moment())
        if moment < self.kept_from:
            raise TooOld(self.kept_from)

    def asked_moment(self, at):
        """The moment that is asked about: None asks about the last one."""
        if at is None:
            return self.moment()
        self.require_kept(at)
        return at

    def value(self, key, *, at=None):
        """A key's value at a moment, or None."""
        if not is_key(key):
            raise NoKey()
        moment = self.asked_moment(at)
        return value_at(self.changes.get(key, []), moment)

    def table(self, *, at=None):
        """The table at a moment."""
        moment = self.asked_moment(at)
        entries = [(key, value_at(self.changes[key], moment)) for key in sorted(self.changes)]
        return tuple([entry for entry in entries if entry[1] is not None])

    def moments(self, key):
        """The pairs (moment, value or None) at which a key was told anew."""
        if not is_key(key):
            raise NoKey()
        return list(self.changes.get(key, []))

    def go_back(self, moment):
        """Undo the rows behind a moment, and tell how many they were."""
        self.require_kept(moment)
        undone = self.moment() - moment
        while self.moment() > moment:
            key = self.done_keys.pop()
            self.changes[key].pop()
            if not self.changes[key]:
                del self.changes[key]
        return undone

    def forget(self, moment):
        """Forget all moments ahead of a told one, which is the oldest then."""
        self.require_kept(moment)
        kept = {key: changes_from(self.changes[key], moment) for key in self.changes}
        self.changes = {key: kept[key] for key in kept if kept[key]}
        self.done_keys = self.done_keys[moment - self.kept_from:]
        self.kept_from = moment

    def __len__(self):
        return len(self.table())

    def __eq__(self, other):
        return (isinstance(other, State) and self.base == other.base and self.kept_from == other.kept_from
                and self.done_keys == other.done_keys and self.changes == other.changes)

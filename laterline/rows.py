"""Keys, values, rows and the tables that rows leave."""

from laterline.counts import is_within
from laterline.errors import NoRow, NoTable

MOST = 10 ** 18
LONGEST_KEY = 12


def is_key(thing):
    """Whether it is a text of 1 to 12 small letters."""
    if not isinstance(thing, str) or not 1 <= len(thing) <= LONGEST_KEY:
        return False
    return all(["a" <= letter <= "z" for letter in thing])


def is_value(thing):
    """Whether it is a number that a key may have."""
    return is_within(thing, -MOST, MOST)


def is_word(thing, word):
    """Whether it is that text; what is no text is not compared, as it may say anything of itself."""
    return isinstance(thing, str) and thing == word


def is_set(thing):
    """Whether a tuple is a row that sets a key."""
    return len(thing) == 3 and is_word(thing[0], "set") and is_key(thing[1]) and is_value(thing[2])


def is_cut(thing):
    """Whether a tuple is a row that cuts a key."""
    return len(thing) == 2 and is_word(thing[0], "cut") and is_key(thing[1])


def is_row(thing):
    """Whether it is a row."""
    return isinstance(thing, tuple) and (is_set(thing) or is_cut(thing))


def value_left(row):
    """The value that a row leaves to its key, None for a cut."""
    return row[2] if len(row) == 3 else None


def is_entry(thing):
    """Whether it is a pair of a key and its value."""
    return isinstance(thing, tuple) and len(thing) == 2 and is_key(thing[0]) and is_value(thing[1])


def is_table(thing):
    """Whether it is a table: entries with keys that rise."""
    if not isinstance(thing, tuple) or not all([is_entry(entry) for entry in thing]):
        return False
    return all([ahead[0] < behind[0] for ahead, behind in zip(thing, thing[1:])])


def is_list_of_rows(thing):
    """Whether it is a list with nothing but rows in it."""
    return isinstance(thing, list) and all([is_row(row) for row in thing])


def plain(rows, *, table=()):
    """The table that a list of rows leaves behind that table."""
    if not is_list_of_rows(rows):
        raise NoRow()
    if not is_table(table):
        raise NoTable()
    left = dict(table)
    for row in rows:
        left[row[1]] = value_left(row)
    return tuple([(key, left[key]) for key in sorted(left) if left[key] is not None])

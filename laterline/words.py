"""Deeds and questions as lines of words."""

from laterline.errors import NoLine
from laterline.rows import is_key

MOST_FIGURES = 60
# How many numbers stand behind each of those words that only numbers follow.
NUMBERS_BEHIND = {
    "follow": 2, "ask": 1, "give": 1, "lose": 1, "done": 1, "rejoin": 2, "renew": 2, "trim": 1, "free": 2, "forget": 2,
    "log": 1, "table": 1, "lines": 0,
}


def is_decimal(text):
    """Whether a text is a number as it is written here."""
    figures = text.removeprefix("-")
    if not 1 <= len(figures) <= MOST_FIGURES or not all(["0" <= figure <= "9" for figure in figures]):
        return False
    return text == "0" or figures[0] != "0"


def number_in(text):
    """The number that a text is."""
    if not is_decimal(text):
        raise NoLine(0)
    return int(text)


def numbers_in(texts):
    """The numbers that the texts are."""
    return tuple([number_in(text) for text in texts])


def key_in(text):
    """The key that a text is."""
    if not is_key(text):
        raise NoLine(0)
    return text


def row_in(texts):
    """The row that the texts make; its value may be any number."""
    if len(texts) == 3 and texts[0] == "set":
        return ("set", key_in(texts[1]), number_in(texts[2]))
    if len(texts) == 2 and texts[0] == "cut":
        return ("cut", key_in(texts[1]))
    raise NoLine(0)


def read_write(texts):
    """The writing that the texts behind the word make."""
    row = row_in(texts[1:])
    return ("write", number_in(texts[0]), row)


def read_apply(texts):
    """The applying that the texts behind the word make."""
    if len(texts) not in (1, 2):
        raise NoLine(0)
    numbers = numbers_in(texts)
    return ("apply", numbers[0], numbers[1] if len(numbers) == 2 else None)


def takeover_in(texts, forced):
    """The takeover that the texts behind the word make."""
    if len(texts) == 0:
        raise NoLine(0)
    numbers = numbers_in(texts)
    return ("takeover", numbers[0], numbers[1:], forced)


def read_takeover(texts):
    """The takeover within the rule that the texts behind the word make."""
    return takeover_in(texts, False)


def read_force(texts):
    """The forced takeover that the texts behind the word make."""
    return takeover_in(texts, True)


def read_reading(texts):
    """The reading that the texts behind the word make."""
    if len(texts) == 2:
        return ("read", number_in(texts[0]), key_in(texts[1]), None)
    if len(texts) == 4 and texts[2] == "at":
        return ("read", number_in(texts[0]), key_in(texts[1]), number_in(texts[3]))
    raise NoLine(0)


READERS = {
    "write": read_write, "apply": read_apply, "takeover": read_takeover, "force": read_force, "read": read_reading,
}


def read_line(text):
    """The tuple of a word and what is handed in that a line says."""
    if not isinstance(text, str):
        raise NoLine(0)
    word, *texts = text.split(" ")
    if word in READERS:
        reader = READERS[word]
        return reader(texts)
    if NUMBERS_BEHIND.get(word) != len(texts):
        raise NoLine(0)
    return (word,) + numbers_in(texts)


def parts_of(deed):
    """What stands in the line of a deed, one part behind another."""
    word = deed[0]
    if word == "write":
        return [word, deed[1], *deed[2]]
    if word == "apply":
        return [word, deed[1]] if deed[2] is None else [word, deed[1], deed[2]]
    if word == "takeover":
        return ["force" if deed[3] else word, deed[1], *deed[2]]
    if word == "read":
        return [word, deed[1], deed[2]] if deed[3] is None else [word, deed[1], deed[2], "at", deed[3]]
    return list(deed)


def show_line(deed):
    """The line of a deed or a question."""
    return " ".join([str(part) for part in parts_of(deed)])

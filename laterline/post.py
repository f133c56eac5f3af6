"""Letters between houses, and the post that keeps them."""

from laterline.books import is_saying
from laterline.counts import is_number, is_place, is_within
from laterline.errors import Full, NoLetter
from laterline.lines import is_history
from laterline.rows import is_row, is_word
from laterline.rules import is_house

LETTERS = 2000


def is_addressed(thing):
    """Whether a tuple has a word, the two houses and the pass of a letter, and something behind them."""
    if len(thing) < 5 or not is_house(thing[1]) or not is_house(thing[2]):
        return False
    return is_number(thing[3]) and thing[3] >= 1


def is_want(thing):
    """Whether an addressed tuple is a want: what a house says of itself, and sayings."""
    if len(thing) != 8 or not is_word(thing[0], "want") or not isinstance(thing[7], tuple):
        return False
    of_itself = (thing[1],) + thing[4:7]
    return is_saying(of_itself) and all([is_saying(saying) for saying in thing[7]])


def is_rows_letter(thing):
    """Whether an addressed tuple brings rows behind a place of a log."""
    if len(thing) != 7 or not is_word(thing[0], "rows") or not isinstance(thing[6], tuple):
        return False
    return is_history(thing[4]) and is_place(thing[5]) and all([is_row(row) for row in thing[6]])


def is_gone(thing):
    """Whether an addressed tuple says that the rows up to a floor are gone."""
    return len(thing) == 5 and is_word(thing[0], "gone") and is_place(thing[4])


def is_letter(thing):
    """Whether it is a letter."""
    if not isinstance(thing, tuple) or not is_addressed(thing):
        return False
    return is_want(thing) or is_rows_letter(thing) or is_gone(thing)


class Post:
    """The letters that were sent, in their order, and which of them are lost."""

    def __init__(self):
        self.letters = []
        self.lost = {}

    def send(self, letter):
        """Keep a letter, and tell its number."""
        if not is_letter(letter):
            raise NoLetter(self.sent())
        if self.sent() >= LETTERS:
            raise Full("letters")
        self.letters.append(letter)
        return self.sent() - 1

    def require_lying(self, number):
        """Refuse what is no number of a letter that lies there."""
        if not is_within(number, 0, self.sent() - 1) or number in self.lost:
            raise NoLetter(number)

    def letter(self, number):
        """The letter of that number."""
        self.require_lying(number)
        return self.letters[number]

    def lose(self, number):
        """Lose the letter of that number."""
        self.require_lying(number)
        self.lost[number] = True

    def lying(self):
        """The numbers of the letters that lie there, rising."""
        return tuple([number for number in range(self.sent()) if number not in self.lost])

    def sent(self):
        """How many letters were sent."""
        return len(self.letters)

    def __len__(self):
        return len(self.lying())

    def __eq__(self, other):
        return isinstance(other, Post) and self.letters == other.letters and self.lost == other.lost

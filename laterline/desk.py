"""A desk: it does lines of words in a world of its own, and answers each with a line."""

from laterline.deeds import SILENT, do_deed
from laterline.errors import LineError, NoLine, name_in
from laterline.rules import WRITTEN
from laterline.words import read_line
from laterline.world import ROOM, World

NOTES = 100


def lines_in(text):
    """The lines of a text; a line end at the very end begins no further one."""
    lines = text.split("\n")
    return lines[:-1] if lines[-1] == "" else lines


def deed_at(lines, at):
    """What the line of that number says."""
    try:
        return read_line(lines[at])
    except NoLine as refusal:
        raise NoLine(at) from refusal


def answer_of(world, deed):
    """The line that answers a deed or a question, granted or refused."""
    try:
        told = do_deed(world, deed)
    except LineError as refusal:
        return "refused " + name_in(str(refusal))
    return "ok" if deed[0] in SILENT else repr(told)


class Desk:
    """Runs of lines in one world, and notes of when each was begun and ended."""

    def __init__(self, many, *, rule=WRITTEN, room=ROOM):
        self.own_world = World(many, rule=rule, room=room)
        self.notes = []
        self.runs = 0
        self.busy = False

    def begin_run(self):
        """Note that a run is begun, and tell how many there were ahead."""
        number = self.runs
        self.runs += 1
        # Those that are told no more need not be kept.
        self.notes = self.notes[-NOTES:]
        self.notes.append(("begun", number))
        self.busy = True
        return number

    def run(self, text):
        """Do the lines of a text, one behind another, and tell the answers."""
        if not isinstance(text, str):
            raise NoLine(0)
        lines = lines_in(text)
        answers = []
        done = 0
        number = self.begin_run()
        try:
            for at in range(len(lines)):
                answers.append(answer_of(self.own_world, deed_at(lines, at)))
                done += 1
        finally:
            self.notes.append(("ended", number, done))
            self.busy = False
        return answers

    def log(self):
        """The last notes of runs."""
        return self.notes[-NOTES:]

    def is_busy(self):
        """Whether a run is under way."""
        return self.busy

    def world(self):
        """The world in which the lines are done."""
        return self.own_world

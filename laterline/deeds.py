"""Deeds and questions as tuples of a word and what is handed in, as trails tell them and lines are read."""


def do_write(world, house, row):
    """Let a house write a row."""
    return world.write(house, row)


def do_follow(world, house, other):
    """Let a house follow another one."""
    return world.follow(house, other)


def do_ask(world, house):
    """Let a house ask whom it follows."""
    return world.ask(house)


def do_give(world, number):
    """Give a letter."""
    return world.give(number)


def do_lose(world, number):
    """Lose a letter."""
    return world.lose(number)


def do_apply(world, house, many):
    """Let a house apply rows, at most so many, or all."""
    return world.apply(house, many=many)


def do_done(world, house):
    """Ask what is done on a house's line."""
    return world.done(house)


def do_takeover(world, house, asked, forced):
    """Let a house take over."""
    return world.takeover(house, asked, forced=forced)


def do_rejoin(world, house, other):
    """Let a house rejoin another one."""
    return world.rejoin(house, other)


def do_renew(world, house, other):
    """Let a house begin anew from another one."""
    return world.renew(house, other)


def do_trim(world, house):
    """Cut off what may be cut of a house's log."""
    return world.trim(house)


def do_free(world, house, other):
    """Take a slot away."""
    return world.free(house, other)


def do_forget(world, house, place):
    """Let a house forget moments."""
    return world.forget(house, place)


def do_read(world, house, key, at):
    """Ask for a key's value at a moment, or at the last one."""
    return world.read(house, key, at=at)


def do_log(world, house):
    """Ask for the rows of a house's log."""
    return world.log_rows(house)


def do_table(world, house):
    """Ask for a house's table."""
    return world.table(house)


def do_lines(world):
    """Ask for the lines."""
    return world.lines()


ACTIONS = {
    "write": do_write, "follow": do_follow, "ask": do_ask, "give": do_give, "lose": do_lose, "apply": do_apply,
    "done": do_done, "takeover": do_takeover, "rejoin": do_rejoin, "renew": do_renew, "trim": do_trim, "free": do_free,
    "forget": do_forget, "read": do_read, "log": do_log, "table": do_table, "lines": do_lines,
}
# These tell nothing when they are granted; a question may tell None.
SILENT = ("lose", "free", "forget")


def do_deed(world, deed):
    """Do a deed in a world, or ask it a question, and tell what that tells."""
    word, *handed = deed
    action = ACTIONS[word]
    return action(world, *handed)

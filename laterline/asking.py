"""What houses write to one another: a follower's want, its answer, and the rows that come."""


def want_of(house):
    """What a house that follows writes to the one it follows."""
    log = house.own_log
    return ("want", house.number, house.followed, house.followed_under, log.line(), log.end(), house.applied(),
            house.book.said())


def follower_and_followed(letter):
    """The house that follows and the one that is followed, as a letter between them has it."""
    return (letter[1], letter[2]) if letter[0] == "want" else (letter[2], letter[1])


def note_want(house, want):
    """Note what a want says, and hold a slot for its follower."""
    follower, end = want[1], want[5]
    house.book.note((follower,) + want[4:7])
    for saying in want[7]:
        # A house knows of itself what others can only have heard.
        if saying[0] != house.number:
            house.book.note(saying)
    house.own_slots.hold(follower, end)


def answer_to(house, want, most):
    """The letter that answers a want: at most so many of the next rows, or that they are gone."""
    log = house.own_log
    follower, under, end = want[1], want[3], want[5]
    if log.floor() > end:
        return ("gone", house.number, follower, under, log.floor())
    return ("rows", house.number, follower, under, log.history(), end, log.rows(end, many=most))


def take_rows(house, letter):
    """Take over what a letter brings of the followed house's log; tell how many rows are new."""
    history, place, rows = letter[4:]
    new = house.own_log.add_rows(history, place, rows)
    house.raise_promise()
    return new

"""A plain world to hold the program against: whole logs, row by row, and nothing that is worked out ahead.

It shares no code with the program. A house keeps all rows that its log ever had, each with the line that it was written
on, and every answer is found by looking at them one by one.
"""

import functools


class Refused(Exception):
    """A refusal of the model: the name of its class and its fields."""

    def __init__(self, name, **fields):
        super().__init__(name)
        self.name = name
        self.fields = fields


class Place:
    """What one house of the model has."""

    def __init__(self, number):
        self.number = number
        self.rows = []
        self.line = 0
        self.floor = self.applied = self.oldest = self.promise = 0
        self.leads = number == 0
        self.whom = self.under = None
        self.slots = {}
        self.book = {}

    def table(self, moment):
        table = {}
        for _, row in self.rows[:moment]:
            table.pop(row[1], None)
            if row[0] == "set":
                table[row[1]] = row[2]
        return table

    def standing(self):
        return (self.rows[-1][0], len(self.rows)) if self.rows else (-1, 0)

    def told(self, first):
        """The rows behind a place, but for those that are cut off."""
        return tuple((line, place, row) for place, (line, row) in enumerate(self.rows, 1)
                     if place > max(first, self.floor))


def common(one, other):
    place = 0
    for ours, theirs in zip(one.rows, other.rows):
        if ours != theirs:
            return place
        place += 1
    return place


class Model:

    def __init__(self, many, rule=("written",), room=40):
        self.houses = [Place(number) for number in range(many)]
        self.rule, self.room = rule, room
        self.letters, self.lost = [], set()
        self.passes = 0
        self.begun = [(0, 0, None, 0, False)]
        self.histories = {0: ((0, 0),)}
        self.line_rows = {0: []}
        self.deeds = []
        self.called_done = {}

    def house(self, number):
        if type(number) is not int or not 0 <= number < len(self.houses):
            raise Refused("NoHouse", house=number)
        return self.houses[number]

    def deed(self, *deed):
        if len(self.deeds) == 2000:
            raise Refused("Full", what="trail")
        self.deeds.append(deed)

    def room_for_letters(self):
        if len(self.letters) == 2000:
            raise Refused("Full", what="letters")

    def send(self, *letter):
        self.letters.append(letter)
        return len(self.letters) - 1

    def write(self, house, row):
        one = self.house(house)
        if not one.leads:
            raise Refused("NoLeader")
        if len(one.rows) == 400:
            raise Refused("Full", what="rows")
        self.deed("write", house, row)
        one.rows.append((one.line, row))
        one.applied += 1
        self.line_rows[one.line].append((one.line, row))
        return (one.line, len(one.rows))

    def no_ring(self, one, other):
        while other is not None:
            if other is one:
                raise Refused("Ring")
            other = None if other.whom is None else self.houses[other.whom]

    def start(self, one, other):
        self.passes += 1
        one.whom, one.under = other.number, self.passes

    def follow(self, house, other):
        one, whom = self.house(house), self.house(other)
        if one.leads:
            raise Refused("Leads")
        self.no_ring(one, whom)
        if one.promise > whom.line:
            raise Refused("Elder", wanted=one.promise)
        if common(one, whom) < len(one.rows):
            raise Refused("Ahead", place=common(one, whom))
        self.deed("follow", house, other)
        self.start(one, whom)
        whom.slots[house] = len(one.rows)
        return self.passes

    def said(self, one):
        return tuple(sorted((*key, *told) for key, told in one.book.items()))

    def ask(self, house):
        one = self.house(house)
        if one.whom is None:
            raise Refused("FollowsNone")
        self.room_for_letters()
        self.deed("ask", house)
        return self.send("want", house, one.whom, one.under, one.line, len(one.rows), one.applied, self.said(one))

    def lies(self, number):
        if type(number) is not int or not 0 <= number < len(self.letters) or number in self.lost:
            raise Refused("NoLetter", number=number)
        return self.letters[number]

    def give(self, number):
        word, sender, receiver, under, *rest = self.lies(number)
        follower, whom = (sender, receiver) if word == "want" else (receiver, sender)
        elder = (self.houses[follower].whom, self.houses[follower].under) != (whom, under)
        if word == "want" and not elder:
            self.room_for_letters()
        self.deed("give", number)
        if elder:
            return ("elder",)
        if word == "want":
            return ("answered", self.answer(self.houses[whom], follower, under, *rest))
        if word == "gone":
            return ("gone", rest[0])
        return ("more", self.take(self.houses[follower], *rest))

    def answer(self, other, follower, under, line, end, applied, sayings):
        for house, line, far, done in ((follower, line, end, applied), *sayings):
            if house != other.number:
                stood = other.book.get((house, line), (0, 0))
                other.book[house, line] = (max(far, stood[0]), max(done, stood[1]))
        other.slots[follower] = max(end, other.slots.get(follower, 0))
        if other.floor > end:
            return self.send("gone", other.number, follower, under, other.floor)
        rows = tuple(row for _, row in other.rows[end:end + 20])
        return self.send("rows", other.number, follower, under, self.histories[other.line], end, rows)

    def take(self, one, history, place, rows):
        new = 0
        for at, row in enumerate(rows, place + 1):
            if at == len(one.rows) + 1:
                one.rows.append(([line for line, fork in history if fork < at][-1], row))
                new += 1
        one.line = max(one.line, history[-1][0])
        one.promise = max(one.promise, one.line)
        return new

    def lose(self, number):
        self.lies(number)
        self.deed("lose", number)
        self.lost.add(number)

    def apply(self, house, many):
        one = self.house(house)
        if many is not None and many < 0:
            raise Refused("NoCount", what="many")
        self.deed("apply", house, many)
        ahead = len(one.rows) - one.applied
        many = ahead if many is None else min(many, ahead)
        one.applied += many
        return many

    def need(self):
        return 1 if self.rule == ("written",) else self.rule[1] + 1

    def done(self, house):
        one = self.house(house)
        if not one.leads:
            raise Refused("NoLeader")
        at = 1 if self.rule[0] == "applied" else 0
        told = {other: told[at] for (other, line), told in one.book.items() if line == one.line}
        fork = self.histories[one.line][-1][1]
        best = None
        for place in range(fork + 1, len(one.rows) + 1):
            having = sorted([house, *(other for other in told if told[other] >= place)])
            if len(having) >= self.need():
                best = (one.line, place, tuple(having))
        if best is not None:
            self.called_done[one.line] = max(best[1], self.called_done.get(one.line, 0))
        return best

    def takeover(self, house, asked, forced):
        one = self.house(house)
        for at, other in enumerate(asked):
            self.house(other)
            if other in asked[:at]:
                raise Refused("NoHouse", house=other)
        if one.leads:
            raise Refused("Leads")
        if len(self.begun) == 60:
            raise Refused("Full", what="lines")
        every = sorted({house, *asked})
        others = [other for other in range(len(self.houses)) if other not in every]
        further = [other for other in every if self.houses[other].standing() > one.standing()]
        avoided = len(others) >= self.need()
        if avoided and not forced:
            raise Refused("Avoided", houses=tuple(others[:self.need()]))
        if further and not forced:
            raise Refused("Behind", house=further[0])
        self.deed("takeover", house, asked, forced)
        return self.begin(one, [self.houses[other] for other in every], avoided or bool(further))

    def begin(self, one, every, beyond):
        line = max(other.promise for other in every) + 1
        while line % len(self.houses) != one.number:
            line += 1
        fork = len(one.rows)
        standings = tuple((other.number, *other.standing()) for other in every)
        lost = {told for other in every for told in other.told(common(one, other))}
        for other in every:
            other.promise = line
            other.leads = False
            if other.whom != one.number:
                other.whom = other.under = None
        history = tuple(pair for pair in self.histories[one.line] if pair[1] <= fork) + ((line, fork),)
        self.histories[line] = history
        self.line_rows[line] = list(one.rows)
        one.line, one.leads, one.applied = line, True, fork
        self.begun.append((line, one.number, history[-2][0], fork, beyond))
        return (one.number, line, fork, standings, tuple(sorted(lost)))

    def joining(self, house, other):
        one, whom = self.house(house), self.house(other)
        self.no_ring(one, whom)
        if one.promise > whom.line:
            raise Refused("Elder", wanted=one.promise)
        place = common(one, whom)
        if place == len(whom.rows) < len(one.rows):
            raise Refused("Short", place=place)
        return one, whom, place

    def joined(self, one, whom):
        one.line = whom.line
        one.promise = max(one.promise, one.line)
        one.leads = False
        self.start(one, whom)
        whom.slots[one.number] = len(one.rows)
        for other in self.houses:
            if other.whom == one.number:
                if common(other, one) == len(other.rows):
                    self.start(other, one)
                else:
                    other.whom = other.under = None

    def rejoin(self, house, other):
        one, whom, place = self.joining(house, other)
        if place < max(one.floor, one.oldest):
            raise Refused("TooOld", since=max(one.floor, one.oldest))
        self.deed("rejoin", house, other)
        dropped = one.told(place)
        del one.rows[place:]
        one.applied = min(one.applied, place)
        self.joined(one, whom)
        return (place, dropped)

    def renew(self, house, other):
        one, whom, place = self.joining(house, other)
        if whom.applied < place:
            raise Refused("Short", place=place)
        self.deed("renew", house, other)
        dropped = one.told(place)
        one.rows = whom.rows[:whom.applied]
        one.floor = one.applied = one.oldest = whom.applied
        self.joined(one, whom)
        return (whom.applied, dropped)

    def trim(self, house):
        one = self.house(house)
        self.deed("trim", house)
        broken = tuple(sorted(other for other in one.slots if one.slots[other] + self.room < len(one.rows)))
        for other in broken:
            del one.slots[other]
        one.floor = max(one.floor, min([one.applied, *one.slots.values()]))
        return (one.floor, broken)

    def free(self, house, other):
        one = self.house(house)
        self.house(other)
        self.deed("free", house, other)
        one.slots.pop(other, None)

    def forget(self, house, place):
        one = self.house(house)
        if not 0 <= place <= 10 ** 6:
            raise Refused("NoPlace", place=place)
        if place > one.applied:
            raise Refused("TooEarly", place=one.applied)
        if place < one.oldest:
            raise Refused("TooOld", since=one.oldest)
        self.deed("forget", house, place)
        one.oldest = place

    def read(self, house, key, at, token):
        one = self.house(house)
        line, place = (0, 0) if token is None else token
        there = [number for number, fork in self.histories[one.line] if fork < place][-1:] or [0]
        if place <= len(one.rows):
            there = [one.rows[place - 1][0]] if place else [0]
        if line < there[0] or line != there[0] and place <= len(one.rows):
            raise Refused("Parted")
        moment = one.applied if at is None else at
        if place > one.applied or moment > one.applied:
            raise Refused("TooEarly", place=one.applied)
        if moment < place:
            raise Refused("Backward", place=place)
        if moment < one.oldest:
            raise Refused("TooOld", since=one.oldest)
        return (one.table(moment).get(key), (one.rows[moment - 1][0] if moment else 0, moment))

    def marks(self, one):
        return (one.floor, len(one.rows), one.applied, one.oldest, one.promise, one.whom, one.leads)


def model_does(model, deed):
    """What the model says of a deed: what is told, or a refusal's name and fields."""
    word, *told = deed
    try:
        return ("told", getattr(model, word)(*told))
    except Refused as refusal:
        return (refusal.name, refusal.fields)


def program_does(world, deed):
    """What the program says of a deed, likewise."""
    word, *told = deed
    calls = {
        "apply": lambda house, many: world.apply(house, many=many),
        "takeover": lambda house, asked, forced: world.takeover(house, asked, forced=forced),
        "read": lambda house, key, at, token: world.read(house, key, at=at, token=token),
    }
    call = calls.get(word) or functools.partial(getattr(world, word))
    try:
        return ("told", call(*told))
    except ValueError as refusal:
        return (type(refusal).__name__, dict(vars(refusal)))

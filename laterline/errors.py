"""The refusals: each lies straight beneath LineError and bears its fields; its words begin with its name."""


class LineError(ValueError):
    """Any refusal."""


class NoRow(LineError):
    """What was handed in is no row, or no list of rows."""

    def __init__(self):
        super().__init__("NoRow: what was handed in is no row, or no list of rows")


class NoKey(LineError):
    """What was handed in is no key."""

    def __init__(self):
        super().__init__("NoKey: what was handed in is no key")


class NoTable(LineError):
    """What was handed in is no table."""

    def __init__(self):
        super().__init__("NoTable: what was handed in is no table")


class NoHistory(LineError):
    """What was handed in is no history."""

    def __init__(self):
        super().__init__("NoHistory: what was handed in is no history")


class NoPlace(LineError):
    """What was handed in is no place, or none that is there."""

    def __init__(self, place):
        super().__init__("NoPlace: what was handed in is no place, or none that is there")
        self.place = place


class TooEarly(LineError):
    """The moment is not reached yet."""

    def __init__(self, place):
        super().__init__("TooEarly: the moment is not reached yet")
        self.place = place


class TooOld(LineError):
    """What is asked for is kept no more."""

    def __init__(self, since):
        super().__init__("TooOld: what is asked for is kept no more")
        self.since = since


class Gap(LineError):
    """Rows are missing between the end and those handed in."""

    def __init__(self, place):
        super().__init__("Gap: rows are missing between the end and those handed in")
        self.place = place


class Ahead(LineError):
    """The log is no beginning of the other one."""

    def __init__(self, place):
        super().__init__("Ahead: the log is no beginning of the other one")
        self.place = place


class Elder(LineError):
    """The other line is elder than the promised one."""

    def __init__(self, wanted):
        super().__init__("Elder: the other line is elder than the promised one")
        self.wanted = wanted


class NoHouse(LineError):
    """What was handed in is no house."""

    def __init__(self, house):
        super().__init__("NoHouse: what was handed in is no house")
        self.house = house


class NoLeader(LineError):
    """The house does not lead."""

    def __init__(self):
        super().__init__("NoLeader: the house does not lead")


class Leads(LineError):
    """The house leads."""

    def __init__(self):
        super().__init__("Leads: the house leads")


class Ring(LineError):
    """Houses would follow one another in a ring."""

    def __init__(self):
        super().__init__("Ring: houses would follow one another in a ring")


class FollowsNone(LineError):
    """The house follows nobody."""

    def __init__(self):
        super().__init__("FollowsNone: the house follows nobody")


class NoLetter(LineError):
    """There is no such letter."""

    def __init__(self, number):
        super().__init__("NoLetter: there is no such letter")
        self.number = number


class Full(LineError):
    """There is no room for more."""

    def __init__(self, what):
        super().__init__("Full: there is no room for more")
        self.what = what


class NoRule(LineError):
    """What was handed in is no rule."""

    def __init__(self):
        super().__init__("NoRule: what was handed in is no rule")


class NoCount(LineError):
    """An argument is not a number that may stand there."""

    def __init__(self, what):
        super().__init__("NoCount: an argument is not a number that may stand there")
        self.what = what


class NoSaying(LineError):
    """What was handed in is no saying."""

    def __init__(self):
        super().__init__("NoSaying: what was handed in is no saying")


class Avoided(LineError):
    """Enough houses for the rule were not asked."""

    def __init__(self, houses):
        super().__init__("Avoided: enough houses for the rule were not asked")
        self.houses = houses


class Behind(LineError):
    """A house that was asked stands further."""

    def __init__(self, house):
        super().__init__("Behind: a house that was asked stands further")
        self.house = house


class Short(LineError):
    """The other log is too short."""

    def __init__(self, place):
        super().__init__("Short: the other log is too short")
        self.place = place


class NoMoment(LineError):
    """What was handed in is no moment."""

    def __init__(self):
        super().__init__("NoMoment: what was handed in is no moment")


class NoToken(LineError):
    """What was handed in is no token."""

    def __init__(self):
        super().__init__("NoToken: what was handed in is no token")


class Parted(LineError):
    """The log has parted from what was seen."""

    def __init__(self):
        super().__init__("Parted: the log has parted from what was seen")


class Backward(LineError):
    """A later moment was seen already."""

    def __init__(self, place):
        super().__init__("Backward: a later moment was seen already")
        self.place = place


class Restless(LineError):
    """The turns are used up and rows still come."""

    def __init__(self, turns):
        super().__init__("Restless: the turns are used up and rows still come")
        self.turns = turns


class NoLine(LineError):
    """What was handed in is no such line."""

    def __init__(self, at):
        super().__init__("NoLine: what was handed in is no such line")
        self.at = at


class Stopped(LineError):
    """A deed of the trail was refused."""

    def __init__(self, at):
        super().__init__("Stopped: a deed of the trail was refused")
        self.at = at


def name_in(words):
    """The name of a refusal's class, with which its words begin."""
    return words.partition(":")[0]

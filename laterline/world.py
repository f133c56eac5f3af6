"""A world: houses that write, follow, ask, take over and rejoin, and all that it tells of them."""

from laterline.asking import answer_to, follower_and_followed, note_want, take_rows, want_of
from laterline.books import done_of
from laterline.counts import is_count, require_within
from laterline.errors import (Ahead, Avoided, Behind, Elder, FollowsNone, Full, Leads, NoCount, NoLeader, NoRow, Ring,
                              Short, TooEarly, TooOld)
from laterline.houses import common_place, first_houses, next_line
from laterline.lines import LINES, require_place
from laterline.post import LETTERS, Post
from laterline.readings import read_from
from laterline.rows import is_row
from laterline.rules import HOUSES, WRITTEN, avoiding, need, require_asked, require_house, require_rule
from laterline.slots import require_room
from laterline.takeovers import FIRST_LINE, houses_further, takeover_paper

ROWS = 400
BATCH = 20
TRAIL = 2000
ROOM = 40


class World:
    """Houses with a rule and a room for slots, the letters between them, their lines and the trail of deeds."""

    def __init__(self, many, *, rule=WRITTEN, room=ROOM):
        require_within(many, 1, HOUSES, "many")
        require_rule(rule)
        require_room(room)
        self.houses = first_houses(many, room)
        self.rule = rule
        self.room = room
        self.post = Post()
        self.passes = 0
        self.begun_lines = [FIRST_LINE]
        self.deeds = []

    def house_of(self, number):
        """The house of that number."""
        require_house(number, houses=self.many())
        return self.houses[number]

    def grant(self, deed):
        """Put a deed on the trail; it is refused only here, behind all else, where the trail is full."""
        if len(self.deeds) >= TRAIL:
            raise Full("trail")
        self.deeds.append(deed)

    def write(self, house, row):
        """Put a row at the end of the line that a house leads; tell its line and place."""
        writer = self.house_of(house)
        if not is_row(row):
            raise NoRow()
        if not writer.leads:
            raise NoLeader()
        if writer.own_log.end() >= ROWS:
            raise Full("rows")
        self.grant(("write", house, row))
        return writer.write_row(row)

    def require_no_ring(self, house, other):
        """Refuse that a house follows itself, at once or by way of others."""
        ahead = other
        while ahead is not None:
            if ahead == house:
                raise Ring()
            ahead = self.houses[ahead].followed

    def require_later(self, one, other):
        """Refuse to follow a house whose line is less than what was promised."""
        if one.promise > other.own_log.line():
            raise Elder(one.promise)

    def new_pass(self, one, other):
        """Let one house follow the other under a new pass, and tell that."""
        self.passes += 1
        one.followed = other.number
        one.followed_under = self.passes
        return self.passes

    def begin_following(self, one, other):
        """Let one house follow the other, which holds what it needs; tell the pass."""
        other.own_slots.anew(one.number, one.own_log.end())
        return self.new_pass(one, other)

    def follow(self, house, other):
        """Let a house follow another one from now on; tell the pass."""
        one = self.house_of(house)
        followed = self.house_of(other)
        if one.leads:
            raise Leads()
        self.require_no_ring(house, other)
        self.require_later(one, followed)
        place = common_place(one, followed)
        if place < one.own_log.end():
            raise Ahead(place)
        self.grant(("follow", house, other))
        return self.begin_following(one, followed)

    def require_letters(self):
        """Refuse to send one more letter where all are sent."""
        if self.post.sent() >= LETTERS:
            raise Full("letters")

    def ask(self, house):
        """Send a want to whom a house follows; tell the letter's number."""
        one = self.house_of(house)
        if one.followed is None:
            raise FollowsNone()
        self.require_letters()
        self.grant(("ask", house))
        return self.post.send(want_of(one))

    def is_elder(self, letter):
        """Whether a letter's follower does not follow the other house under its pass now."""
        follower, followed = follower_and_followed(letter)
        one = self.houses[follower]
        return one.followed != followed or one.followed_under != letter[3]

    def answer(self, want):
        """Note what a want says, and send the answer; tell its number."""
        other = self.houses[want[2]]
        note_want(other, want)
        return self.post.send(answer_to(other, want, BATCH))

    def give(self, number):
        """Give a letter to whom it is for; tell what came of it."""
        letter = self.post.letter(number)
        kind = "elder" if self.is_elder(letter) else letter[0]
        if kind == "want":
            self.require_letters()
        self.grant(("give", number))
        if kind == "elder":
            return ("elder",)
        if kind == "want":
            return ("answered", self.answer(letter))
        if kind == "gone":
            return ("gone", letter[4])
        return ("more", take_rows(self.houses[letter[2]], letter))

    def lose(self, number):
        """Lose a letter."""
        self.post.require_lying(number)
        self.grant(("lose", number))
        self.post.lose(number)

    def apply(self, house, *, many=None):
        """Let a house apply the next rows that it holds, at most so many; tell how many."""
        one = self.house_of(house)
        if many is not None and not is_count(many):
            raise NoCount("many")
        self.grant(("apply", house, many))
        return one.apply_rows(many)

    def done(self, house):
        """The paper of what is done on the line that a house leads, or None."""
        one = self.house_of(house)
        if not one.leads:
            raise NoLeader()
        line, fork = one.own_log.history()[-1]
        return done_of(one.book, line, fork, one.own_log.end(), house, self.rule)

    def takeover(self, house, asked, *, forced=False):
        """Let a house begin a new line; tell the paper of it."""
        taker = self.house_of(house)
        require_asked(asked, self.many())
        if taker.leads:
            raise Leads()
        if len(self.begun_lines) >= LINES:
            raise Full("lines")
        every = [one for one in self.houses if one.number == house or one.number in asked]
        avoided = avoiding(self.many(), tuple([one.number for one in every]), need(self.rule))
        ahead = houses_further(taker, every)
        if avoided is not None and not forced:
            raise Avoided(avoided)
        if ahead and not forced:
            raise Behind(ahead[0])
        self.grant(("takeover", house, asked, forced))
        return self.hand_over(taker, every, avoided is None and not ahead)

    def hand_over(self, taker, every, within):
        """Let all that were asked promise a new line, and the taker begin it, within the rule or not."""
        line = next_line(taker.number, self.many(), max([one.promise for one in every]))
        paper = takeover_paper(taker, line, every)
        for one in every:
            one.promise = line
            if one.number != taker.number:
                one.yield_to(taker.number)
        taker.begin_line(line)
        parent = taker.own_log.history()[-2][0]
        self.begun_lines.append((line, taker.number, parent, taker.own_log.end(), not within))
        return paper

    def require_joining(self, house, other):
        """Refuse what may be no rejoining and no renewing; tell the two houses and their last common place."""
        one = self.house_of(house)
        joined = self.house_of(other)
        self.require_no_ring(house, other)
        self.require_later(one, joined)
        place = common_place(one, joined)
        if place == joined.own_log.end() and place < one.own_log.end():
            raise Short(place)
        return (one, joined, place)

    def settle(self, one, other):
        """Let a house whose log is a beginning of the other's now follow it; those that follow it go on or stop."""
        one.raise_promise()
        one.leads = False
        self.begin_following(one, other)
        for follower in self.houses:
            if follower.followed == one.number:
                if common_place(follower, one) == follower.own_log.end():
                    self.new_pass(follower, one)
                else:
                    follower.follow_nobody()

    def rejoin(self, house, other):
        """Let a house give up what parts it from another one, and follow that; tell the place and the rows."""
        one, joined, place = self.require_joining(house, other)
        since = max(one.own_log.floor(), one.state.oldest())
        if place < since:
            raise TooOld(since)
        self.grant(("rejoin", house, other))
        dropped = one.give_up(place)
        one.own_log.adopt(joined.own_log.history())
        self.settle(one, joined)
        return (place, dropped)

    def renew(self, house, other):
        """Let a house begin anew from what another one has applied, and follow that; tell the place and the rows."""
        one, joined, place = self.require_joining(house, other)
        if joined.applied() < place:
            raise Short(place)
        self.grant(("renew", house, other))
        dropped = one.rows_left(place)
        begun_at = one.begin_anew(joined)
        self.settle(one, joined)
        return (begun_at, dropped)

    def trim(self, house):
        """Break slots and cut off rows of a house's log; tell its floor then and whose slots were broken."""
        one = self.house_of(house)
        self.grant(("trim", house))
        cut, broken = one.own_slots.cut_for(one.own_log.end(), one.applied())
        floor = max(cut, one.own_log.floor())
        one.own_log.trim(floor)
        return (floor, broken)

    def free(self, house, other):
        """Take the slot for the other house away."""
        one = self.house_of(house)
        self.house_of(other)
        self.grant(("free", house, other))
        one.own_slots.free(other)

    def forget(self, house, place):
        """Let a house's State forget all moments ahead of a place."""
        one = self.house_of(house)
        require_place(place)
        if place > one.applied():
            raise TooEarly(one.applied())
        if place < one.state.oldest():
            raise TooOld(one.state.oldest())
        self.grant(("forget", house, place))
        one.state.forget(place)

    def read(self, house, key, *, at=None, token=None):
        """A key's value at a moment of a house, or None, and the token of that moment."""
        return read_from(self.house_of(house), key, at, token)

    def history(self, house):
        """The history of a house's log."""
        return self.house_of(house).own_log.history()

    def log_rows(self, house):
        """The rows that a house's log has, with their lines and places."""
        return self.house_of(house).rows_left(0)

    def table(self, house):
        """The table of a house's State now."""
        return self.house_of(house).state.table()

    def marks(self, house):
        """Floor, end, applied number, oldest moment and promise of a house, whom it follows, whether it leads."""
        one = self.house_of(house)
        log = one.own_log
        return (log.floor(), log.end(), one.applied(), one.state.oldest(), one.promise, one.followed, one.leads)

    def slots(self, house):
        """The slots on a house's log."""
        return self.house_of(house).own_slots.held()

    def said(self, house):
        """All that a house's book says."""
        return self.house_of(house).book.said()

    def lines(self):
        """The lines as they were begun: (line, house, parent, fork, forced)."""
        return list(self.begun_lines)

    def trail(self):
        """The deeds that were granted, in order."""
        return list(self.deeds)

    def lying(self):
        """The numbers of the letters that lie there."""
        return self.post.lying()

    def letter(self, number):
        """The letter of that number."""
        return self.post.letter(number)

    def many(self):
        """How many houses there are."""
        return len(self.houses)

    def __len__(self):
        return len([deed for deed in self.deeds if deed[0] == "write"])

    def __eq__(self, other):
        return (isinstance(other, World) and self.houses == other.houses and self.rule == other.rule
                and self.room == other.room and self.post == other.post and self.passes == other.passes
                and self.begun_lines == other.begun_lines and self.deeds == other.deeds)

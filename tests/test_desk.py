"""Promises 2, 3 and 39: a desk."""

import inspect
import random
import unittest

from laterline.desk import NOTES, Desk
from laterline.errors import NoCount, NoLine, NoRule
from laterline.words import show_line
from laterline.world import World
from tests.helpers import not_numbers, odd_things
from tests.model import Model, model_does, program_does
from tests.runs import any_deed, any_shape
from tests.worlds import WorldCase

# Lines and their answers in a world of three houses and a room of 3, one behind another.
STORY = [
    ("write 0 set a 1", "(0, 1)"),
    ("write 0 cut b", "(0, 2)"),
    ("write 1 set a 1", "refused NoLeader"),
    ("write 3 set a 1", "refused NoHouse"),
    ("write 0 set a 1000000000000000001", "refused NoRow"),
    ("done 0", "(0, 2, (0,))"),
    ("done 1", "refused NoLeader"),
    ("ask 1", "refused FollowsNone"),
    ("follow 1 0", "1"),
    ("follow 0 1", "refused Leads"),
    ("follow 1 1", "refused Ring"),
    ("follow 2 1", "2"),
    ("ask 1", "0"),
    ("give 0", "('answered', 1)"),
    ("give 1", "('more', 2)"),
    ("give 2", "refused NoLetter"),
    ("lose 0", "ok"),
    ("lose 0", "refused NoLetter"),
    ("apply 1 1", "1"),
    ("apply 1", "1"),
    ("apply 1", "0"),
    ("apply 1 -1", "refused NoCount"),
    ("log 1", "((0, 1, ('set', 'a', 1)), (0, 2, ('cut', 'b')))"),
    ("log 2", "()"),
    ("log 9", "refused NoHouse"),
    ("table 1", "(('a', 1),)"),
    ("table 2", "()"),
    ("read 1 a", "(1, (0, 2))"),
    ("read 1 b at 1", "(None, (0, 1))"),
    ("read 1 a at 3", "refused TooEarly"),
    ("read 1 a at -1", "refused NoMoment"),
    ("forget 1 1", "ok"),
    ("forget 1 0", "refused TooOld"),
    ("forget 1 -1", "refused NoPlace"),
    ("read 1 a at 0", "refused TooOld"),
    ("takeover 1 2", "refused Avoided"),
    ("takeover 2 0 1", "refused Behind"),
    ("takeover 1 0 0", "refused NoHouse"),
    ("takeover 0", "refused Leads"),
    ("force 1", "(1, 1, 2, ((1, 0, 2),), ())"),
    ("done 1", "None"),
    ("write 0 set c 3", "(0, 3)"),
    ("write 1 set c 4", "(1, 3)"),
    ("follow 1 0", "refused Leads"),
    ("rejoin 1 0", "refused Elder"),
    ("renew 1 0", "refused Elder"),
    ("rejoin 0 1", "(2, ((0, 3, ('set', 'c', 3)),))"),
    ("renew 0 1", "(3, ())"),
    ("renew 0 2", "refused Elder"),
    ("rejoin 2 1", "(0, ())"),
    ("renew 0 2", "refused Short"),
    ("lines", "[(0, 0, None, 0, False), (1, 1, 0, 2, True)]"),
    ("trim 1", "(0, ())"),
    ("write 1 cut c", "(1, 4)"),
    ("trim 1", "(3, (2,))"),
    ("free 1 0", "ok"),
    ("free 1 0", "ok"),
    ("free 1 3", "refused NoHouse"),
    ("trim 1", "(4, ())"),
]


def story_desk():
    return Desk(3, room=3)


class AnswersTest(WorldCase):

    def test_each_answer(self):
        desk = story_desk()
        for line, answer in STORY:
            self.same(desk.run(line), [answer])

    def test_all_at_once(self):
        desk = story_desk()
        self.same(desk.run("\n".join(line for line, _ in STORY)), [answer for _, answer in STORY])
        self.same(desk.log(), [("begun", 0), ("ended", 0, len(STORY))])

    def test_the_world_is_the_one_in_which_lines_are_done(self):
        desk = story_desk()
        world = desk.world()
        self.assertIs(desk.world(), world)
        self.assertTrue(world == World(3, room=3))
        desk.run("\n".join(line for line, _ in STORY))
        self.assertIs(desk.world(), world)
        self.same(len(world), 5)
        world.write(1, ("set", "z", 9))
        self.same(desk.run("table 1"), ["(('a', 1), ('z', 9))"])

    def test_ahead(self):
        desk = Desk(2)
        self.same(desk.run("write 0 cut a\nfollow 1 0\nask 1\ngive 0\ngive 1\nforce 1\nwrite 1 cut b\nforce 0"),
                  ["(0, 1)", "1", "0", "('answered', 1)", "('more', 1)", "(1, 1, 1, ((1, 0, 1),), ())", "(1, 2)",
                   "refused Leads"])
        desk = Desk(3)
        desk.run("write 0 cut a\nfollow 1 0\nask 1\ngive 0\ngive 1")
        self.same(desk.run("follow 1 2\nrejoin 1 2"), ["refused Ahead", "refused Short"])

    def test_full(self):
        desk = Desk(1)
        self.same(desk.run("write 0 cut a\n" * 401)[-2:], ["(0, 400)", "refused Full"])
        self.same(desk.run("apply 0\n" * 1601)[-2:], ["0", "refused Full"])
        self.same(desk.run("done 0"), ["(0, 400, (0,))"])

    def test_rules(self):
        desk = Desk(2, rule=("held", 1))
        self.same(desk.run("write 0 cut a\ndone 0\nfollow 1 0\nask 1\ngive 0\ngive 1\nask 1\ngive 2\ndone 0")[-1],
                  "(0, 1, (0, 1))")
        self.same(desk.run("takeover 1"), ["(1, 1, 1, ((1, 0, 1),), ())"])

    def test_numbers_of_sixty_figures(self):
        desk = Desk(2)
        for form in ("write {} cut a", "write 0 set a {}", "give {}", "apply {}", "forget 0 {}", "read 0 a at {}",
                     "takeover 1 {}"):
            for number in ("9" * 60, "-" + "9" * 60):
                self.assertRegex(desk.run(form.format(number))[0], r"\Arefused \w+\Z")
        self.same(desk.run("apply 0 " + "9" * 60), ["0"])


class RunsTest(WorldCase):

    def answer(self, world, deed):
        """What a desk must answer to a deed in a world like its own."""
        kind, told = program_does(world, deed if deed[0] != "read" else (*deed, None))
        if kind != "told":
            return f"refused {kind}"
        return repr(told) if deed[0] not in ("lose", "free", "forget") else "ok"

    def test_lines_of_a_run_are_done_as_its_deeds(self):
        for seed in range(700, 712):
            dice = random.Random(seed)
            many, rule, room = any_shape(dice)
            desk, world = Desk(many, rule=rule, room=room), World(many, rule=rule, room=room)
            model = Model(many, rule, room)
            for _ in range(200):
                deed = any_deed(dice, model)
                model_does(model, deed)
                deed = deed[:4] if deed[0] == "read" else deed
                self.same(desk.run(show_line(deed)), [self.answer(world, deed)])
            self.assertTrue(desk.world() == world)


class TextsTest(WorldCase):

    def test_parted_by_line_ends(self):
        for text, many in (("", 0), ("lines", 1), ("lines\n", 1), ("lines\nlines", 2), ("lines\nlines\n", 2)):
            desk = Desk(1)
            self.same(desk.run(text), ["[(0, 0, None, 0, False)]"] * many)
            self.same(desk.log(), [("begun", 0), ("ended", 0, many)])

    def stopped(self, text, at):
        desk = Desk(1)
        self.refused(NoLine, {"at": at}, desk.run, text)
        self.same(desk.log(), [("begun", 0), ("ended", 0, at)])
        self.same(len(desk.world()), at)
        self.assertIs(desk.is_busy(), False)
        self.same(desk.run("write 0 cut b"), [f"(0, {at + 1})"])

    def test_a_line_that_is_none(self):
        row = "write 0 cut a"
        for none in ("", " ", "no line", "write 0 cut A", row + "\r", row + " ", "write 00 cut a", "give 1.0"):
            self.stopped(none + "\n", 0)
            self.stopped(f"{none}\n{row}", 0)
            self.stopped(f"{row}\n{none}\n{row}", 1)
            self.stopped(f"{row}\n{row}\n{none}\n{row}\n{none}", 2)
            self.stopped(f"{row}\n{row}\n{row}\n{none}\n", 3)
        self.stopped("\n", 0)
        self.stopped("\n\n", 0)
        self.stopped(f"{row}\n\n", 1)
        self.stopped(f"\n{row}", 0)
        self.stopped(f"{row}\r\n{row}", 0)
        self.stopped(f"{row}\n{row}\u2028{row}", 1)

    def test_refused_lines_are_answered_and_counted(self):
        desk = Desk(1)
        self.refused(NoLine, {"at": 2}, desk.run, "give 0\nwrite 0 cut a\nx")
        self.same(desk.log(), [("begun", 0), ("ended", 0, 2)])

    def test_what_is_no_text_is_no_run(self):
        desk = Desk(1)
        desk.run("write 0 cut a")
        for thing in odd_things() + [["lines"], ("lines",), b"lines", 5]:
            if not isinstance(thing, str):
                self.unchanged(desk.world(), NoLine, {"at": 0}, desk.run, thing)
        self.same(desk.log(), [("begun", 0), ("ended", 0, 1)])
        self.assertIs(desk.is_busy(), False)
        desk.run("")
        self.same(desk.log()[2:], [("begun", 1), ("ended", 1, 0)])

    def test_the_refusal_of_a_line_is_its_cause(self):
        with self.assertRaises(NoLine) as caught:
            Desk(1).run("lines\nno")
        self.assertIsInstance(caught.exception.__cause__, NoLine)


class NotesTest(WorldCase):

    def test_at_first(self):
        self.same(NOTES, 100)
        desk = Desk(1)
        self.same(desk.log(), [])
        self.assertIs(desk.is_busy(), False)

    def test_runs_are_counted(self):
        desk = Desk(1)
        desk.run("write 0 cut a\nwrite 0 cut a")
        self.refused(NoLine, {"at": 1}, desk.run, "write 0 cut a\nno")
        desk.run("lines")
        self.same(desk.log(), [("begun", 0), ("ended", 0, 2), ("begun", 1), ("ended", 1, 1), ("begun", 2),
                               ("ended", 2, 1)])

    def test_more_than_100_notes(self):
        desk = Desk(1)
        for number in range(75):
            desk.run("lines\n" * (number % 3))
            self.same(len(desk.log()), min(100, 2 * number + 2))
        notes = [note for number in range(25, 75) for note in (("begun", number), ("ended", number, number % 3))]
        self.same(desk.log(), notes)

    def test_what_was_told_may_be_changed(self):
        desk = Desk(1)
        answers = desk.run("lines")
        desk.log().clear()
        desk.log().append(0)
        answers.clear()
        self.same(desk.log(), [("begun", 0), ("ended", 0, 1)])
        self.same(desk.run("lines"), ["[(0, 0, None, 0, False)]"])

    def test_busy_while_a_run_is_under_way(self):
        desk = Desk(1)
        world = desk.world()
        seen = []

        def look():
            seen.append((desk.is_busy(), desk.log()))
            return []

        world.lines = look
        desk.run("lines\nwrite 0 cut a\nlines")
        self.same(seen, [(True, [("begun", 0)])] * 2)
        self.assertIs(desk.is_busy(), False)

    def test_whatever_happens_in_a_run(self):
        desk = Desk(1)

        def fail():
            raise RuntimeError("something else happens")

        desk.world().lines = fail
        with self.assertRaises(RuntimeError):
            desk.run("table 0\nlines\ntable 0")
        self.same(desk.log(), [("begun", 0), ("ended", 0, 1)])
        self.assertIs(desk.is_busy(), False)


class BeginningTest(WorldCase):

    def test_methods_stand_in_the_class_itself(self):
        for name in ("run", "log", "is_busy", "world", "__init__"):
            self.assertTrue(inspect.isfunction(vars(Desk)[name]), name)

    def test_worlds_of_each_kind(self):
        self.assertTrue(Desk(3).world() == World(3))
        self.assertTrue(Desk(8, rule=("applied", 7), room=400).world() == World(8, rule=("applied", 7), room=400))

    def test_desks_are_apart(self):
        one, other = Desk(1), Desk(1)
        one.run("write 0 cut a")
        self.same((len(other.world()), other.log()), (0, []))

    def test_refused_as_a_world(self):
        for many in not_numbers() + [0, 9]:
            self.refused(NoCount, {"what": "many"}, Desk, many, rule=None, room=0)
        for rule in odd_things() + [("held", 0), ["written"]]:
            self.refused(NoRule, {}, Desk, 2, rule=rule, room=0)
        for room in not_numbers() + [0, 401]:
            self.refused(NoCount, {"what": "room"}, Desk, 2, room=room)


if __name__ == "__main__":
    unittest.main()

"""Promise 4, and 2, 3 and 22 to 36 with it: runs of many deeds, held against a plain model of a world."""

import copy
import random
import unittest

from laterline.calm import calm
from laterline.lines import line_of
from laterline.rows import plain
from laterline.takeovers import right_lines, right_takeover
from tests.model import model_does, program_does
from tests.runs import any_deed, run_of
from tests.worlds import WorldCase


def is_beginning(rows, others):
    return rows == others[:len(rows)]


class PromiseTest(WorldCase):

    def logs_are_of_told_lines(self, world, model):
        """Each house's log is that of a told line up to a place, and its table is plain."""
        begun = [line for line, *_ in world.lines()]
        for house, one in enumerate(model.houses):
            if one.rows:
                line = one.rows[-1][0]
                self.assertIn(line, begun)
                self.assertTrue(is_beginning(one.rows, model.line_rows[line]))
            applied = world.marks(house)[2]
            self.same(world.table(house), plain([row for _, row in one.rows[:applied]]))

    def lines_are_written_by_one(self, world, model):
        """Rows of a line are just those that its house wrote, behind what that held."""
        owners = {line: house for line, house, *_ in world.lines()}
        for line, rows in model.line_rows.items():
            fork = model.histories[line][-1][1]
            self.assertEqual({number for number, _ in rows[fork:]} - {line}, set())
            self.assertEqual(line % world.many(), owners[line])
        self.assertIs(right_lines(world.many(), world.lines()), True)

    def what_is_done_stands(self, model):
        """What was called done on a line stands in each greater one, where none of those between was forced."""
        forced = {line: beyond for line, _, _, _, beyond in model.begun}
        for line, place in model.called_done.items():
            for greater in sorted(model.line_rows):
                if greater > line:
                    if any(forced[other] for other in forced if line < other <= greater):
                        break
                    self.assertGreaterEqual(len(model.line_rows[greater]), place)
                    self.assertEqual(model.line_rows[greater][:place], model.line_rows[line][:place])
                    self.stood.add((self.seed, line, greater))

    def nobody_is_ahead(self, world, model):
        """Whoever follows is a beginning of whom it follows, and promised nothing above its line."""
        for house, one in enumerate(model.houses):
            whom = world.marks(house)[5]
            self.assertLessEqual(world.history(house)[-1][0], world.marks(house)[4])
            if whom is not None:
                self.assertTrue(is_beginning(one.rows, model.houses[whom].rows))
                self.assertLessEqual(world.marks(house)[4], world.history(whom)[-1][0])

    def setUp(self):
        self.seed = None
        self.stood = set()

    def look(self, world, model):
        self.logs_are_of_told_lines(world, model)
        self.lines_are_written_by_one(world, model)
        self.what_is_done_stands(model)
        self.nobody_is_ahead(world, model)

    def test_runs(self):
        granted, refused = {}, {}
        for seed in range(60):
            _, _, told = run_of(seed, 300, self, self.look)
            for (word, kind), many in told.items():
                kinds = granted if kind == "told" else refused
                kinds.setdefault(word, {}).setdefault(kind, 0)
                kinds[word][kind] += many
        # The runs are worth something only where each deed was granted, and each refusal met.
        self.assertEqual(set(granted), {"write", "follow", "ask", "give", "lose", "apply", "done", "takeover", "rejoin",
                                        "renew", "trim", "free", "forget", "read"})
        self.assertLessEqual({"NoHouse", "Leads", "Avoided", "Behind"}, set(refused["takeover"]))
        self.assertLessEqual({"NoHouse", "Ring", "Elder", "Short", "TooOld"}, set(refused["rejoin"]))
        self.assertLessEqual({"NoHouse", "Ring", "Elder", "Short"}, set(refused["renew"]))
        self.assertLessEqual({"NoHouse", "Leads", "Ring", "Elder", "Ahead"}, set(refused["follow"]))
        self.assertLessEqual({"Parted", "TooEarly", "Backward", "TooOld"}, set(refused["read"]))

    def test_what_is_called_done_in_runs_without_forced_takeovers(self):
        for seed in range(500, 540):
            self.seed = seed
            run_of(seed, 300, self, self.look, careful=True)
        # So many pairs of a line with something done and a greater one were looked at.
        self.assertGreater(len(self.stood), 500)

    def test_refused_deeds_between_others_change_nothing(self):
        for seed in range(100, 108):
            world, model, _ = run_of(seed, 60, self)
            dice = random.Random(seed)
            for _ in range(60):
                deed = any_deed(dice, model)
                before = copy.deepcopy(world)
                if program_does(world, deed)[0] == "told":
                    model_does(model, deed)
                else:
                    self.assertTrue(world == before)

    def test_papers_of_takeovers_within_the_rule_are_right(self):
        papers = 0
        for seed in range(200, 240):
            world, model, _ = run_of(seed, 120, self)
            dice = random.Random(seed)
            for house in range(world.many()):
                asked = tuple(dice.sample(range(world.many()), dice.randrange(world.many() + 1)))
                kind, paper = program_does(world, ("takeover", house, asked, True))
                if kind == "told":
                    beyond = world.lines()[-1][4]
                    if not beyond:
                        self.assertIs(right_takeover(world.many(), model.rule, paper), True)
                        papers += 1
        self.assertGreater(papers, 20)

    def test_calm_behind_a_run(self):
        for seed in range(300, 330):
            world, _, _ = run_of(seed, 150, self)
            turns, gone = calm(world)
            self.assertLessEqual(turns, 40)
            for house in range(world.many()):
                _, end, applied, _, _, whom, _ = world.marks(house)
                if whom is not None and house not in gone:
                    self.same((world.marks(whom)[1], applied), (end, end))
                    self.same([line_of(world.history(house), place) for place in range(1, end + 1)],
                              [line_of(world.history(whom), place) for place in range(1, end + 1)])


if __name__ == "__main__":
    unittest.main()

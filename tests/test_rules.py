"""Promises 2, 3, 17 and 20: rules and their need, houses that are avoided."""

import itertools
import unittest

from laterline.errors import NoCount, NoHouse, NoRule
from laterline.rules import HOUSES, WRITTEN, avoiding, is_rule, need
from tests.helpers import Case, Yes, not_numbers, odd_things


def wrong_rules():
    wrong = odd_things() + [
        (), "written", ["written"], ("Written",), (b"written",), ("written", 1), ("written", None), ("written", ()),
        (("written",),), "held", ("held",), ("applied",), ["held", 1], ("held", 1, 1), ("held", 1, None),
        ("applied", 2, 2), ("held", (1,)), ("held", [1]), ("Held", 1), ("done", 1), ("", 1), (1, "held"),
        ("held", "applied"), ("written", "held", 1), (("held", 1),), (("held",), 1), (None, 1), (Yes(),), (Yes(), 1),
    ]
    for word in ("held", "applied"):
        wrong += [(word, k) for k in (-1, 0, 8, 9, 10 ** 59, -10 ** 59, True, False, "1")]
        wrong += [(word, thing) for thing in not_numbers()]
    return wrong


class RulesTest(Case):

    def test_names(self):
        self.same(WRITTEN, ("written",))
        self.same(HOUSES, 8)

    def test_rules_and_their_need(self):
        self.assertIs(is_rule(("written",)), True)
        self.same(need(("written",)), 1)
        for word in ("held", "applied"):
            for k in range(1, 8):
                self.assertIs(is_rule((word, k)), True)
                self.same(need((word, k)), k + 1)

    def test_wrong_rules(self):
        for thing in wrong_rules():
            self.assertIs(is_rule(thing), False)
            self.refused(NoRule, {}, need, thing)


class AvoidingTest(Case):

    def test_none_asked(self):
        self.same(avoiding(5, (), 3), (0, 1, 2))
        self.same(avoiding(8, (), 8), (0, 1, 2, 3, 4, 5, 6, 7))
        self.same(avoiding(1, (), 1), (0,))

    def test_all_asked(self):
        for many in range(1, 9):
            self.assertIsNone(avoiding(many, tuple(range(many)), 1))

    def test_the_least_ones_that_were_not_asked(self):
        self.same(avoiding(6, (0, 2), 2), (1, 3))
        self.same(avoiding(6, (2, 0), 2), (1, 3))
        self.same(avoiding(6, (5,), 1), (0,))
        self.same(avoiding(8, (7, 0, 3), 4), (1, 2, 4, 5))

    def test_just_so_many_are_left_and_one_fewer(self):
        self.same(avoiding(5, (4, 1), 3), (0, 2, 3))
        self.assertIsNone(avoiding(5, (4, 1), 4))
        self.same(avoiding(2, (0,), 1), (1,))
        self.assertIsNone(avoiding(2, (0,), 2))
        self.assertIsNone(avoiding(7, (), 8))
        self.assertIsNone(avoiding(1, (), 8))

    def test_it_is_none_just_where_each_set_of_so_many_meets_those_asked(self):
        for many, k in itertools.product(range(1, 6), range(1, 7)):
            for size in range(many + 1):
                for asked in itertools.permutations(range(many), size):
                    meets = all(set(asked) & set(some) for some in itertools.combinations(range(many), k))
                    self.assertIs(avoiding(many, asked, k) is None, meets)
                    self.assertIs(meets, size + k > many)

    def test_counts_refused(self):
        for thing in not_numbers() + [-1, 0, 9, 10 ** 59, -10 ** 59]:
            self.refused(NoCount, {"what": "houses"}, avoiding, thing, (), 1)
            self.refused(NoCount, {"what": "need"}, avoiding, 3, (), thing)

    def test_houses_refused(self):
        for thing in not_numbers() + [-1, 3, 7, 8, 10 ** 59]:
            self.refused(NoHouse, {"house": thing}, avoiding, 3, (thing,), 1)
            self.refused(NoHouse, {"house": thing}, avoiding, 3, (2, thing), 1)
            self.refused(NoHouse, {"house": thing}, avoiding, 3, (2, thing, 2), 1)
        self.refused(NoHouse, {"house": 8}, avoiding, 8, (7, 8), 1)
        self.refused(NoHouse, {"house": 1}, avoiding, 1, (0, 1), 1)

    def test_a_house_that_stands_there_twice(self):
        self.refused(NoHouse, {"house": 2}, avoiding, 3, (2, 0, 2), 1)
        self.refused(NoHouse, {"house": 0}, avoiding, 3, (0, 0), 1)
        self.refused(NoHouse, {"house": 1}, avoiding, 3, (0, 1, 1, 0, 9), 1)
        self.refused(NoHouse, {"house": 9}, avoiding, 3, (0, 1, 9, 1, 0), 1)

    def test_what_is_no_tuple(self):
        for thing in [None, [], [0], [0, 1], 0, "01", {0: 1}, {0}]:
            self.refused(NoHouse, {"house": thing}, avoiding, 3, thing, 1)

    def test_order_of_refusals(self):
        self.refused(NoCount, {"what": "houses"}, avoiding, 0, (9,), 0)
        self.refused(NoCount, {"what": "need"}, avoiding, 3, (9,), 0)
        self.refused(NoHouse, {"house": 9}, avoiding, 3, (9,), 8)


if __name__ == "__main__":
    unittest.main()

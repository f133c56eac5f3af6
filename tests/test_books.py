"""Promises 2, 3, 18 and 19: what houses said, what is called done, and papers of it."""

import itertools
import random
import unittest

from laterline.books import Book, done_of, right_done
from laterline.errors import NoRule, NoSaying
from laterline.rules import need
from tests.helpers import Case, Yes, not_numbers, odd_things, wrong_sayings

RULES = [("written",)] + [(word, k) for word in ("held", "applied") for k in range(1, 8)]


def filled(*sayings):
    book = Book()
    for saying in sayings:
        book.note(saying)
    return book


class BookTest(Case):

    def test_at_first(self):
        book = Book()
        self.same(book.said(), ())
        self.same(len(book), 0)
        self.assertIsNone(book.told(0, 0))

    def test_one_house_on_several_lines_and_several_houses_on_one(self):
        book = filled((3, 7, 10, 4), (3, 2, 6, 6), (0, 7, 9, 1), (5, 7, 0, 0), (3, 10, 11, 11))
        self.same(book.said(), ((0, 7, 9, 1), (3, 2, 6, 6), (3, 7, 10, 4), (3, 10, 11, 11), (5, 7, 0, 0)))
        self.same(len(book), 5)
        self.same(book.told(3, 7), (10, 4))
        self.same(book.told(3, 2), (6, 6))
        self.same(book.told(5, 7), (0, 0))

    def test_told_of_what_nobody_said(self):
        book = filled((3, 7, 10, 4))
        for house, line in ((3, 6), (3, 8), (2, 7), (4, 7), (7, 3), (0, 0), (7, 10 ** 9)):
            self.assertIsNone(book.told(house, line))

    def test_each_number_rises_by_itself(self):
        book = Book()
        for end, applied, stands in ((5, 3, (5, 3)), (4, 4, (5, 4)), (9, 0, (9, 4)), (9, 4, (9, 4)), (0, 0, (9, 4)),
                                     (8, 8, (9, 8)), (10, 10, (10, 10)), (10 ** 6, 10 ** 6, (10 ** 6, 10 ** 6))):
            self.assertIsNone(book.note((1, 2, end, applied)))
            self.same(book.told(1, 2), stands)
            self.same(book.said(), ((1, 2, *stands),))
            self.same(len(book), 1)

    def test_bounds(self):
        for saying in ((0, 0, 0, 0), (7, 10 ** 9, 10 ** 6, 10 ** 6), (7, 10 ** 9, 10 ** 6, 0), (0, 0, 1, 1)):
            self.same(filled(saying).said(), (saying,))

    def test_no_saying(self):
        book = filled((1, 2, 3, 3), (4, 5, 6, 0))
        for thing in wrong_sayings():
            self.refused(NoSaying, {}, book.note, thing)
            self.refused(NoSaying, {}, Book().note, thing)
        self.same(book.said(), ((1, 2, 3, 3), (4, 5, 6, 0)))

    def test_equal(self):
        self.assertEqual(Book(), Book())
        self.assertEqual(filled((1, 2, 3, 3), (4, 5, 6, 0)), filled((4, 5, 6, 0), (1, 2, 0, 0), (1, 2, 3, 3)))
        self.assertFalse(filled((1, 2, 3, 3)) != filled((1, 2, 3, 1), (1, 2, 3, 3)))

    def test_unequal(self):
        book = filled((1, 2, 3, 3), (4, 5, 6, 0))
        for other in (Book(), filled((1, 2, 3, 3)), filled((1, 2, 3, 3), (4, 5, 6, 1)),
                      filled((1, 2, 3, 3), (4, 5, 7, 0)), filled((1, 2, 3, 3), (4, 6, 6, 0)),
                      filled((1, 2, 3, 3), (5, 5, 6, 0)),
                      filled((1, 2, 3, 3), (4, 5, 6, 0), (0, 0, 0, 0))):
            self.assertNotEqual(book, other)
            self.assertNotEqual(other, book)

    def test_other_things(self):
        book = filled((1, 2, 3, 3))
        for thing in odd_things() + [book.said(), {(1, 2): (3, 3)}]:
            self.assertIs(Book.__eq__(book, thing), False)


# On line 4, which house 1 began at fork 10 and wrote up to 30; other lines and the writer's own sayings are beside it.
BOOK = filled((0, 4, 25, 12), (2, 4, 20, 20), (3, 4, 20, 15), (5, 4, 40, 35), (6, 4, 11, 10), (7, 4, 9, 2),
              (1, 4, 28, 27), (4, 3, 30, 30), (4, 5, 30, 30), (0, 8, 99, 99))


class DoneTest(Case):

    def check(self, rule, place, houses):
        self.same(done_of(BOOK, 4, 10, 30, 1, rule), (4, place, houses))

    def test_written(self):
        self.check(("written",), 30, (1, 5))
        self.same(done_of(Book(), 0, 0, 7, 0, ("written",)), (0, 7, (0,)))
        self.same(done_of(BOOK, 4, 29, 30, 1, ("written",)), (4, 30, (1, 5)))
        self.assertIsNone(done_of(BOOK, 4, 30, 30, 1, ("written",)))
        self.assertIsNone(done_of(Book(), 0, 0, 0, 0, ("written",)))

    def test_held(self):
        self.check(("held", 1), 30, (1, 5))
        self.check(("held", 2), 25, (0, 1, 5))
        self.check(("held", 3), 20, (0, 1, 2, 3, 5))
        self.check(("held", 4), 20, (0, 1, 2, 3, 5))
        self.check(("held", 5), 11, (0, 1, 2, 3, 5, 6))

    def test_applied(self):
        self.check(("applied", 1), 30, (1, 5))
        self.check(("applied", 2), 20, (1, 2, 5))
        self.check(("applied", 3), 15, (1, 2, 3, 5))
        self.check(("applied", 4), 12, (0, 1, 2, 3, 5))

    def test_at_the_fork_and_one_behind(self):
        self.assertIsNone(done_of(BOOK, 4, 10, 30, 1, ("applied", 5)))
        self.same(done_of(BOOK, 4, 9, 30, 1, ("applied", 5)), (4, 10, (0, 1, 2, 3, 5, 6)))
        self.assertIsNone(done_of(BOOK, 4, 10, 30, 1, ("held", 6)))
        self.assertIsNone(done_of(BOOK, 4, 9, 30, 1, ("held", 6)))
        self.same(done_of(BOOK, 4, 8, 30, 1, ("held", 6)), (4, 9, (0, 1, 2, 3, 5, 6, 7)))

    def test_fewer_others_than_the_rule_asks_for(self):
        for rule in (("held", 7), ("applied", 7)):
            self.assertIsNone(done_of(BOOK, 4, 0, 30, 1, rule))
        for rule in RULES[1:]:
            self.assertIsNone(done_of(Book(), 4, 0, 30, 1, rule))
            self.assertIsNone(done_of(BOOK, 6, 0, 30, 1, rule))

    def test_the_writers_own_sayings_do_not_count(self):
        book = filled((1, 4, 30, 30))
        for rule in (("held", 1), ("applied", 1)):
            self.assertIsNone(done_of(book, 4, 10, 30, 1, rule))
            self.same(done_of(book, 4, 10, 30, 2, rule), (4, 30, (1, 2)))
        book.note((2, 4, 15, 15))
        for rule in (("held", 1), ("applied", 1)):
            self.same(done_of(book, 4, 10, 30, 1, rule), (4, 15, (1, 2)))

    def test_all_eight(self):
        book = filled(*[(house, 0, 10 + house, house) for house in range(8)])
        self.same(done_of(book, 0, 0, 99, 7, ("held", 7)), (0, 10, tuple(range(8))))
        self.same(done_of(book, 0, 0, 99, 0, ("applied", 7)), (0, 1, tuple(range(8))))
        self.assertIsNone(done_of(book, 0, 0, 99, 7, ("applied", 7)))

    def test_no_rule(self):
        for rule in odd_things() + [("held", 0), ("held", 8), ("held", True), ["written"], (), ("applied",)]:
            self.refused(NoRule, {}, done_of, BOOK, 4, 10, 30, 1, rule)
            self.refused(NoRule, {}, right_done, BOOK, 4, 10, 30, 1, rule, (4, 30, (1, 5)))
            self.refused(NoRule, {}, right_done, BOOK, 4, 10, 30, 1, rule, None)


def plain_right(book, line, fork, end, house, rule, paper):
    """The words of [19] about a paper of right kinds, one by one."""
    told_line, place, houses = paper
    column = 1 if rule[0] == "applied" else 0
    others = [book.told(other, line) for other in houses if other != house]
    return (told_line == line and fork + 1 <= place <= end and list(houses) == sorted(set(houses)) and house in houses
            and len(houses) >= need(rule) and all(told is not None and told[column] >= place for told in others))


class RightDoneTest(Case):

    def right(self, rule, paper):
        answer = right_done(BOOK, 4, 10, 30, 1, rule, paper)
        self.assertIsInstance(answer, bool)
        return answer

    def test_what_done_of_tells(self):
        for rule in RULES:
            for fork in (0, 5, 10, 29):
                paper = done_of(BOOK, 4, fork, 30, 1, rule)
                if paper is not None:
                    self.assertIs(right_done(BOOK, 4, fork, 30, 1, rule, paper), True)
                else:
                    self.assertIs(right_done(BOOK, 4, fork, 30, 1, rule, None), False)

    def test_a_lesser_place_and_fewer_houses(self):
        for place in range(11, 21):
            self.assertTrue(self.right(("held", 2), (4, place, (0, 1, 2, 3, 5))))
            self.assertTrue(self.right(("held", 2), (4, place, (1, 3, 5))))
            self.assertFalse(self.right(("held", 2), (4, place, (1, 5))))
            self.assertTrue(self.right(("held", 1), (4, place, (1, 5))))
            self.assertFalse(self.right(("held", 1), (4, place, (1,))))
            self.assertTrue(self.right(("written",), (4, place, (1,))))
        self.assertFalse(self.right(("held", 2), (4, 21, (0, 1, 2, 3, 5))))
        self.assertTrue(self.right(("held", 2), (4, 21, (0, 1, 5))))

    def test_places(self):
        self.assertTrue(self.right(("written",), (4, 11, (1,))))
        self.assertTrue(self.right(("written",), (4, 30, (1,))))
        for place in (10, 9, 0, -1, 31, 10 ** 6, 10 ** 59):
            self.assertFalse(self.right(("written",), (4, place, (1,))))
            self.assertFalse(self.right(("held", 1), (4, place, (1, 5))))

    def test_lines(self):
        for line in (3, 5, 0, -1, 10 ** 59):
            self.assertFalse(self.right(("written",), (line, 30, (1,))))

    def test_houses(self):
        for houses in ((1, 5), (1, 2, 3, 5), (0, 1, 2, 3, 5)):
            self.assertTrue(self.right(("held", 1), (4, 20, houses)), houses)
        for houses in ((0, 5), (5,), (), (5, 1), (1, 1, 5), (1, 5, 5), (1, 5, 1), (0, 2, 1), (1, 6), (1, 2, 7), (1, 4),
                       (1, 8), (-1, 1), (-1, 0, 1), (1, 10 ** 59), (1, 9)):
            self.assertFalse(self.right(("held", 1), (4, 20, houses)), houses)
        self.assertFalse(self.right(("written",), (4, 20, ())))
        self.assertFalse(self.right(("written",), (4, 20, (5,))))
        self.assertFalse(self.right(("written",), (4, 20, (1, 6))))

    def test_applied_looks_at_applied_numbers(self):
        self.assertTrue(self.right(("applied", 1), (4, 12, (0, 1))))
        self.assertFalse(self.right(("applied", 1), (4, 13, (0, 1))))
        self.assertTrue(self.right(("held", 1), (4, 25, (0, 1))))
        self.assertFalse(self.right(("held", 1), (4, 26, (0, 1))))

    def test_the_writer_says_nothing_of_itself(self):
        self.assertTrue(self.right(("applied", 1), (4, 30, (1, 5))))
        self.assertTrue(self.right(("held", 1), (4, 29, (1, 5))))

    def test_a_house_that_told_0(self):
        book = filled((2, 4, 0, 0))
        self.assertIs(right_done(book, 4, 0, 3, 1, ("held", 1), (4, 1, (1, 2))), False)

    def test_other_kinds(self):
        rule, right = ("held", 1), (4, 20, (1, 2, 5))
        self.assertTrue(self.right(rule, right))
        for thing in odd_things() + [list(right), (4, 20, [1, 2, 5]), (4, 20), (4, 20, (1, 2, 5), None),
                                     (4, 20, 1, 2, 5), (right,), (4, 20, {1: 2}), (4, 20, "125"), (4, 20, range(1, 3)),
                                     (4, (20, (1, 5))),
                                     (4, 20, ((1,), (5,))), (Yes(), Yes(), Yes()), (4, 20, Yes()), (4, 20, (1, Yes()))]:
            self.assertFalse(self.right(rule, thing))
        for thing in not_numbers():
            for wrong in ((thing, 20, (1, 5)), (4, thing, (1, 5)), (4, 20, thing), (4, 20, (thing, 1, 5)),
                          (4, 20, (1, thing)), (4, 20, (1, thing, 5)), (4, 20, (1, 5, thing))):
                self.assertFalse(self.right(rule, wrong))

    def test_truths_are_no_numbers(self):
        book = filled((0, 1, 3, 3), (1, 1, 3, 3))
        self.assertIs(right_done(book, 1, 0, 3, 1, ("held", 1), (1, 1, (0, 1))), True)
        for wrong in ((True, 1, (0, 1)), (1, True, (0, 1)), (1, 1, (False, 1)), (1, 1, (0, True)),
                      (1, 1, (False, True))):
            self.assertIs(right_done(book, 1, 0, 3, 1, ("held", 1), wrong), False)

    def test_papers_against_the_words(self):
        chance = random.Random(19)
        for _ in range(60):
            book = filled(*[(chance.randrange(4), chance.randrange(2), end, chance.randrange(end + 1))
                            for end in [chance.randrange(6) for _ in range(8)]])
            fork, house, rule = chance.randrange(3), chance.randrange(4), chance.choice(RULES[:3] + RULES[8:10])
            end = fork + chance.randrange(4)
            best = None
            for place, size in itertools.product(range(7), range(5)):
                for houses in itertools.combinations(range(4), size):
                    told = (book, 0, fork, end, house, rule, (0, place, houses))
                    self.assertIs(right_done(*told), plain_right(*told), told)
                    if plain_right(*told):
                        best = (0, place, houses)
            # The greatest place with the most houses is what is told to be done.
            self.assertEqual(done_of(book, 0, fork, end, house, rule), best)


if __name__ == "__main__":
    unittest.main()

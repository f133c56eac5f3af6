"""Promises 2, 3 and 21: letters and the post."""

import unittest

from laterline.errors import Full, NoLetter
from laterline.lines import ROOT
from laterline.post import LETTERS, Post, is_letter
from tests.helpers import (Case, Yes, long_history, not_numbers, odd_things, wrong_histories, wrong_places,
                           wrong_sayings)

WANT = ("want", 1, 2, 3, 4, 5, 5, ((0, 1, 2, 1), (3, 4, 5, 5)))
ROWS = ("rows", 2, 1, 3, ((0, 0), (4, 5)), 5, (("set", "a", 1), ("cut", "b")))
GONE = ("gone", 2, 1, 3, 9)
EACH = [WANT, ROWS, GONE]
BEYOND = [-1, 8, 10 ** 59, -10 ** 59]


def with_part(letter, at, part):
    return letter[:at] + (part,) + letter[at + 1:]


class LettersTest(Case):

    def right(self, letter, at, *parts):
        for part in parts:
            self.assertIs(is_letter(with_part(letter, at, part)), True, (letter, at))

    def wrong(self, letter, at, parts):
        for part in parts:
            self.assertIs(is_letter(with_part(letter, at, part)), False, (letter, at))

    def test_each_kind(self):
        for letter in EACH:
            self.assertIs(is_letter(letter), True)

    def test_words(self):
        for letter in EACH:
            self.wrong(letter, 0, not_numbers() + [1, "Want", "", "want ", "row", b"want", ("want",)])
        for one in EACH:
            self.wrong(one, 0, [other[0] for other in EACH if other != one])

    def test_houses(self):
        for letter in EACH:
            for at in (1, 2):
                self.right(letter, at, 0, 1, 2, 7)
                self.wrong(letter, at, not_numbers() + BEYOND)

    def test_passes(self):
        for letter in EACH:
            self.right(letter, 3, 1, 2, 10 ** 6 + 1, 10 ** 9 + 1, 10 ** 59)
            self.wrong(letter, 3, not_numbers() + [0, -1, -10 ** 59])

    def test_parts_more_and_fewer(self):
        for letter in EACH:
            for many in range(len(letter)):
                self.assertIs(is_letter(letter[:many]), False)
                self.assertIs(is_letter(letter[1:many + 1]), False)
            for more in (None, 0, 9, (), "a"):
                self.assertIs(is_letter(letter + (more,)), False)
                self.assertIs(is_letter((more,) + letter), False)

    def test_want(self):
        self.right(WANT, 4, 0, 10 ** 9)
        self.wrong(WANT, 4, not_numbers() + [-1, 10 ** 9 + 1, 10 ** 59])
        self.right(WANT, 5, 5, 6, 10 ** 6)
        self.wrong(WANT, 5, wrong_places())
        self.right(WANT, 6, 0, 1, 5)
        self.wrong(WANT, 6, wrong_places() + [6, 10 ** 6])
        self.assertIs(is_letter(("want", 0, 0, 1, 0, 0, 0, ())), True)
        self.assertIs(is_letter(("want", 7, 7, 1, 10 ** 9, 10 ** 6, 10 ** 6, ())), True)
        self.assertIs(is_letter(("want", 7, 7, 1, 10 ** 9, 10 ** 6, 10 ** 6 + 1, ())), False)

    def test_sayings_of_a_want(self):
        self.right(WANT, 7, (), ((1, 2, 3, 3),), ((7, 10 ** 9, 10 ** 6, 10 ** 6), (0, 0, 0, 0)),
                   ((1, 2, 3, 3), (1, 2, 3, 3)), ((0, 0, 0, 0),) * 500)
        self.wrong(WANT, 7, odd_things() + [[], [(1, 2, 3, 3)], (1, 2, 3, 3), {}, "", {(1, 2, 3, 3): 1}])
        for saying in wrong_sayings():
            self.wrong(WANT, 7, [(saying,), ((1, 2, 3, 3), saying), (saying, (1, 2, 3, 3))])

    def test_rows(self):
        self.right(ROWS, 4, ROOT, ((7, 0),), long_history(60), ((0, 0), (10 ** 9, 10 ** 6)))
        self.wrong(ROWS, 4, wrong_histories())
        self.right(ROWS, 5, 0, 1, 10 ** 6)
        self.wrong(ROWS, 5, wrong_places())
        self.right(ROWS, 6, (), (("cut", "a"),), (("set", "abcdefghijkl", 10 ** 18),), (("set", "z", -10 ** 18),),
                   (("cut", "a"),) * 21, (("cut", "a"),) * 500)
        self.wrong(ROWS, 6, odd_things() + [
            [], [("cut", "a")], ("cut", "a"), ("set", "a", 1), {}, "", {("cut", "a"): 1}])
        for row in odd_things() + [["cut", "a"], ("cut", "A"), ("cut", ""), ("set", "a"), ("set", "a", True),
                                   ("set", "a", 10 ** 18 + 1), ("cut", "abcdefghijklm"), ("cut", "a", 1)]:
            self.wrong(ROWS, 6, [(row,), (("cut", "a"), row), (row, ("cut", "a"))])

    def test_gone(self):
        self.right(GONE, 4, 0, 1, 10 ** 6)
        self.wrong(GONE, 4, wrong_places())

    def test_other_kinds(self):
        for thing in odd_things() + ["want", 5, (), list(WANT), list(ROWS), list(GONE), (WANT,), [WANT], {GONE: 1},
                                     (Yes(),) * 5, (Yes(),) * 7, (Yes(),) * 8, (None,) * 8]:
            self.assertIs(is_letter(thing), False)


class PostTest(Case):

    def is_as(self, post, sent, lying):
        self.same(post.sent(), sent)
        self.same(post.lying(), lying)
        self.same(len(post), len(lying))

    def filled(self, many):
        post = Post()
        for number in range(many):
            self.same(post.send(with_part(GONE, 4, number)), number)
        return post

    def test_at_first(self):
        self.same(LETTERS, 2000)
        self.is_as(Post(), 0, ())

    def test_send_and_letter(self):
        post = Post()
        for number, letter in enumerate(EACH + EACH):
            self.same(post.send(letter), number)
        self.is_as(post, 6, (0, 1, 2, 3, 4, 5))
        for number, letter in enumerate(EACH + EACH):
            self.same(post.letter(number), letter)
            self.same(post.letter(number), letter)
        self.is_as(post, 6, (0, 1, 2, 3, 4, 5))

    def test_lose(self):
        post = self.filled(5)
        self.assertIsNone(post.lose(3))
        self.is_as(post, 5, (0, 1, 2, 4))
        self.assertIsNone(post.lose(0))
        self.is_as(post, 5, (1, 2, 4))
        self.same(post.letter(4), with_part(GONE, 4, 4))
        self.same(post.send(WANT), 5)
        self.is_as(post, 6, (1, 2, 4, 5))
        for number in (3, 0):
            self.refused(NoLetter, {"number": number}, post.letter, number)
            self.refused(NoLetter, {"number": number}, post.lose, number)
        self.is_as(post, 6, (1, 2, 4, 5))

    def test_numbers_that_are_none(self):
        post = self.filled(3)
        for number in not_numbers() + [-1, -3, 3, 4, 1999, 2000, 10 ** 59, -10 ** 59]:
            self.refused(NoLetter, {"number": number}, post.letter, number)
            self.refused(NoLetter, {"number": number}, post.lose, number)
        self.is_as(post, 3, (0, 1, 2))
        self.refused(NoLetter, {"number": 0}, Post().letter, 0)
        self.refused(NoLetter, {"number": 0}, Post().lose, 0)

    def test_what_is_no_letter(self):
        post = self.filled(3)
        post.lose(1)
        for thing in odd_things() + [list(GONE), GONE[:4], GONE + (1,), with_part(GONE, 1, 8), with_part(WANT, 6, 6)]:
            self.refused(NoLetter, {"number": 3}, post.send, thing)
            self.refused(NoLetter, {"number": 0}, Post().send, thing)
        self.is_as(post, 3, (0, 2))

    def test_full(self):
        post = self.filled(2000)
        self.refused(Full, {"what": "letters"}, post.send, WANT)
        self.refused(NoLetter, {"number": 2000}, post.send, None)
        post.lose(7)
        self.refused(Full, {"what": "letters"}, post.send, WANT)
        self.is_as(post, 2000, tuple(number for number in range(2000) if number != 7))
        self.same(post.letter(1999), with_part(GONE, 4, 1999))

    def test_equal(self):
        self.assertEqual(Post(), Post())
        one, other = self.filled(4), self.filled(4)
        self.assertEqual(one, other)
        for number in (1, 2, 3):
            one.lose(number)
            self.assertNotEqual(one, other)
        for number in (3, 1, 2):
            self.assertNotEqual(one, other)
            other.lose(number)
        self.assertEqual(one, other)
        self.assertFalse(one != other)

    def test_unequal(self):
        post = self.filled(3)
        unlike = self.filled(2)
        unlike.send(GONE)
        lost = self.filled(3)
        lost.lose(2)
        # The same letters lie there, but one more was sent and lost.
        more = self.filled(4)
        more.lose(3)
        for other in (Post(), self.filled(2), self.filled(4), unlike, lost, more):
            self.assertNotEqual(post, other)
            self.assertNotEqual(other, post)

    def test_unlike_letters_that_are_lost(self):
        one, other = Post(), Post()
        one.send(GONE)
        other.send(WANT)
        one.lose(0)
        other.lose(0)
        self.assertNotEqual(one, other)

    def test_other_things(self):
        post = self.filled(1)
        for thing in odd_things() + [[with_part(GONE, 4, 0)], (0,), {0: GONE}]:
            self.assertIs(Post.__eq__(post, thing), False)


if __name__ == "__main__":
    unittest.main()

"""Promises 2, 3 and 5: keys, values, rows, tables and the plain table."""

import copy
import string
import unittest

from laterline.errors import NoRow, NoTable
from laterline.rows import MOST, is_key, is_row, is_table, plain
from tests.helpers import Case, not_numbers, odd_things


class KeysTest(Case):

    def test_lengths(self):
        for many, answer in ((0, False), (1, True), (2, True), (11, True), (12, True), (13, False), (100, False)):
            self.assertIs(is_key("k" * many), answer, many)

    def test_every_small_letter(self):
        for letter in string.ascii_lowercase:
            self.assertIs(is_key(letter), True)
            self.assertIs(is_key("m" + letter), True)
        self.assertIs(is_key("abcdefghijkl"), True)
        self.assertIs(is_key("mnopqrstuvwx"), True)
        self.assertIs(is_key("yz"), True)

    def test_other_letters(self):
        others = [chr(code) for code in range(256) if chr(code) not in string.ascii_lowercase]
        others += ["\u0430", "\u03b1", "\uff41", "\u0131", "\ud800", "\U0001d41a"]
        for letter in others:
            for text in (letter, "a" + letter, letter + "a", "a" + letter + "z"):
                self.assertIs(is_key(text), False, repr(text))

    def test_other_things(self):
        for thing in odd_things() + [("a",), ["a"], (), b"a", 97]:
            self.assertIs(is_key(thing), False)


class RowsTest(Case):

    def test_rows(self):
        for row in (("set", "a", 0), ("set", "abcdefghijkl", -5), ("cut", "a"), ("cut", "zzzzzzzzzzzz")):
            self.assertIs(is_row(row), True, row)

    def test_bounds_of_values(self):
        self.same(MOST, 10 ** 18)
        for value in (-10 ** 18, -10 ** 18 + 1, -1, 0, 1, 10 ** 18 - 1, 10 ** 18):
            self.assertIs(is_row(("set", "a", value)), True, value)
            self.assertIs(is_table((("a", value),)), True, value)
        for value in (-10 ** 18 - 1, 10 ** 18 + 1, 10 ** 59, -10 ** 59):
            self.assertIs(is_row(("set", "a", value)), False, value)
            self.assertIs(is_table((("a", value),)), False, value)

    def test_values_of_other_kinds(self):
        for value in not_numbers():
            self.assertIs(is_row(("set", "a", value)), False)
            self.assertIs(is_table((("a", value),)), False)

    def test_words_of_other_kinds(self):
        for word in odd_things() + ["Set", "SET", "sett", "se", " set", "set ", ("set",), b"set", "put"]:
            self.assertIs(is_row((word, "a", 1)), False)
            self.assertIs(is_row((word, "a")), False)

    def test_keys_of_other_kinds(self):
        for key in odd_things() + ["abcdefghijklm", "", "aB", "a1"]:
            self.assertIs(is_row(("set", key, 1)), False)
            self.assertIs(is_row(("cut", key)), False)

    def test_lengths(self):
        for thing in ((), ("set",), ("cut",), ("set", "a"), ("cut", "a", 1), ("cut", "a", None),
                      ("set", "a", 1, 1), ("set", "a", 1, None), ("cut", "a", "a", 1)):
            self.assertIs(is_row(thing), False, thing)

    def test_a_list_or_text_is_no_row(self):
        for thing in (["set", "a", 1], ["cut", "a"], "set", "cut", "set a 1", (("set", "a", 1),), (("cut", "a"),),
                      {"set": 1, "a": 2}, {0: "cut", 1: "a"}):
            self.assertIs(is_row(thing), False, thing)

    def test_other_things(self):
        for thing in odd_things():
            self.assertIs(is_row(thing), False)


class TablesTest(Case):

    def test_tables(self):
        for table in ((), (("a", 1),), (("a", 1), ("b", 1)), (("a", 0), ("aa", -1), ("ab", 3), ("b", 2)),
                      (("abcdefghijkl", -10 ** 18), ("z", 10 ** 18))):
            self.assertIs(is_table(table), True, table)

    def test_keys_out_of_order_or_twice(self):
        for table in ((("b", 1), ("a", 1)), (("a", 1), ("a", 1)), (("a", 1), ("a", 2)), (("aa", 1), ("a", 1)),
                      (("a", 1), ("c", 1), ("b", 1)), (("b", 1), ("c", 1), ("a", 1)),
                      (("a", 1), ("b", 1), ("b", 1)), (("a", 1), ("b", 2), ("a", 1))):
            self.assertIs(is_table(table), False, table)

    def test_lists_where_tuples_are_told(self):
        for thing in ([], [("a", 1)], (["a", 1],), (("a", 1), ["b", 1]), [["a", 1]], (("a", [1]),)):
            self.assertIs(is_table(thing), False, thing)

    def test_wrong_entries(self):
        for entry in odd_things() + [("a",), ("a", 1, 1), ("A", 1), ("", 1), (1, "a"), "ab", ("abcdefghijklm", 1)]:
            self.assertIs(is_table((entry,)), False)
            self.assertIs(is_table((("a", 1), entry)), False)
            self.assertIs(is_table((entry, ("z", 1))), False)

    def test_other_things(self):
        for thing in odd_things() + ["ab", {"a": 1}, ("a", 1), {("a", 1)}]:
            self.assertIs(is_table(thing), False)


class PlainTest(Case):

    def test_no_rows(self):
        self.same(plain([]), ())
        self.same(plain([], table=(("a", 1), ("b", 2))), (("a", 1), ("b", 2)))

    def test_set(self):
        self.same(plain([("set", "b", 2), ("set", "a", 0), ("set", "b", -3)]), (("a", 0), ("b", -3)))
        self.same(plain([("set", "b", 2)], table=(("a", 1), ("c", 3))), (("a", 1), ("b", 2), ("c", 3)))
        self.same(plain([("set", "a", 9)], table=(("a", 1), ("c", 3))), (("a", 9), ("c", 3)))

    def test_cut(self):
        self.same(plain([("set", "a", 1), ("cut", "a")]), ())
        self.same(plain([("cut", "a")], table=(("a", 1), ("b", 2))), (("b", 2),))
        self.same(plain([("cut", "a"), ("set", "a", 5)], table=(("a", 1),)), (("a", 5),))

    def test_cut_of_a_key_that_has_no_value(self):
        self.same(plain([("cut", "a")]), ())
        self.same(plain([("cut", "a"), ("cut", "a")], table=(("b", 2),)), (("b", 2),))

    def test_keys_rise(self):
        keys = ["b", "ab", "a", "z", "aa", "abc", "ba"]
        rows = [("set", key, place) for place, key in enumerate(keys)]
        self.same(plain(rows), tuple(sorted((key, place) for place, key in enumerate(keys))))

    def test_what_is_told_is_a_table(self):
        table = plain([("set", "b", 2), ("set", "a", 1)])
        self.assertIs(is_table(table), True)
        self.same(plain([], table=table), table)

    def test_no_rows_refused(self):
        row = ("set", "a", 1)
        wrong = [(), (row,), row, "set", None, True, {}, {row: 1}, iter([row]), [["set", "a", 1]], [row, None],
                 [None, row], [row, row, ("cut",)], [[row]], [("set", "a", True)], [("set", "a", 10 ** 18 + 1)]]
        for rows in wrong:
            self.refused(NoRow, {}, plain, rows)
        for thing in odd_things():
            self.refused(NoRow, {}, plain, [thing])
            self.refused(NoRow, {}, plain, [row, thing, row])
            if repr(thing) != "[]":
                self.refused(NoRow, {}, plain, thing)

    def test_no_table_refused(self):
        for table in odd_things() + [[], [("a", 1)], (["a", 1],), (("b", 1), ("a", 1)), (("a", 1), ("a", 1))]:
            self.refused(NoTable, {}, plain, [("set", "a", 1)], table=table)
            self.refused(NoTable, {}, plain, [], table=table)

    def test_no_row_goes_ahead_of_no_table(self):
        self.refused(NoRow, {}, plain, (), table=[])
        self.refused(NoRow, {}, plain, [("cut",)], table=None)

    def test_the_table_is_handed_by_its_name(self):
        with self.assertRaises(TypeError):
            plain([], ())

    def test_what_is_handed_in_is_not_changed(self):
        rows = [("set", "b", 1), ("cut", "a")]
        before = copy.deepcopy(rows)
        told = plain(rows, table=(("a", 1),))
        self.same(rows, before)
        rows.clear()
        self.same(told, (("b", 1),))


if __name__ == "__main__":
    unittest.main()

"""The interface of laterline/errors.py."""

import inspect
import unittest

from laterline import errors

FIELDS = {
    "NoRow": (), "NoKey": (), "NoTable": (), "NoHistory": (), "NoPlace": ("place",), "TooEarly": ("place",),
    "TooOld": ("since",), "Gap": ("place",), "Ahead": ("place",), "Elder": ("wanted",), "NoHouse": ("house",),
    "NoLeader": (), "Leads": (), "Ring": (), "FollowsNone": (), "NoLetter": ("number",), "Full": ("what",),
    "NoRule": (), "NoCount": ("what",), "NoSaying": (), "Avoided": ("houses",), "Behind": ("house",),
    "Short": ("place",), "NoMoment": (), "NoToken": (), "Parted": (), "Backward": ("place",),
    "Restless": ("turns",), "NoLine": ("at",), "Stopped": ("at",),
}


class ErrorsTest(unittest.TestCase):

    def test_line_error_is_a_value_error(self):
        self.assertEqual(errors.LineError.__bases__, (ValueError,))

    def test_each_refusal_lies_straight_beneath_line_error(self):
        for name in FIELDS:
            with self.subTest(name):
                self.assertEqual(getattr(errors, name).__bases__, (errors.LineError,))

    def test_there_are_no_others(self):
        classes = inspect.getmembers(errors, inspect.isclass)
        self.assertEqual({name for name, _ in classes}, {"LineError", *FIELDS})

    def test_fields_are_set_as_told(self):
        for name, fields in FIELDS.items():
            with self.subTest(name):
                told = [object() for _ in fields]
                made = getattr(errors, name)(*told)
                self.assertEqual(vars(made), dict(zip(fields, told)))

    def test_fields_must_be_told(self):
        for name, fields in FIELDS.items():
            if fields:
                with self.subTest(name), self.assertRaises(TypeError):
                    getattr(errors, name)()

    def test_a_field_bears_what_was_handed_in_whatever_it_is(self):
        for thing in (None, True, [], ("a", [1]), "", 10 ** 59, ValueError):
            self.assertIs(errors.NoPlace(thing).place, thing)
            self.assertIs(errors.NoHouse(thing).house, thing)
            self.assertIs(errors.NoLetter(thing).number, thing)

    def test_words_begin_with_the_name(self):
        for name, fields in FIELDS.items():
            made = getattr(errors, name)(*fields)
            self.assertEqual(errors.name_in(str(made)), name)
            self.assertGreater(len(str(made)), len(name) + 2)

    def test_they_can_be_caught_as_line_errors(self):
        for name, fields in FIELDS.items():
            with self.subTest(name), self.assertRaises(errors.LineError):
                raise getattr(errors, name)(*fields)


if __name__ == "__main__":
    unittest.main()

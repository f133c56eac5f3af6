"""What the tests share: things of any kind, and a case that asks for refusals."""

import unittest


class Loud:
    """A thing that fails as soon as it is compared, counted, hashed or tested."""

    def fail(self, *told):
        raise RuntimeError("this thing is not to be asked")

    __eq__ = __ne__ = __lt__ = __le__ = __gt__ = __ge__ = fail
    __len__ = __bool__ = __hash__ = __iter__ = __getitem__ = __contains__ = fail


class Yes:
    """A thing that says it is equal to everything."""

    __hash__ = None

    def __eq__(self, other):
        return True


def nested(wrap, depth):
    thing = wrap(())
    for _ in range(depth - 1):
        thing = wrap((thing,))
    return thing


def odd_things():
    """Things of many kinds; none of them is a key, a row, a table with entries or a history."""
    return [
        None, True, False, "", "A", "no key", b"key", b"", 10 ** 59, -(10 ** 59), -1,
        [], {}, {"key": 1}, set(), {1}, frozenset(), range(3), object(), Loud(), Yes(), len, int, str,
        lambda: 0, iter([]), 2j, bytearray(b"key"), memoryview(b"key"), Ellipsis, NotImplemented, ValueError("key"),
        nested(tuple, 20), nested(list, 20), (None,), ((),), [()], ("",), (Loud(),), (Loud(), Loud()),
        (Loud(), "a", 1), (Yes(), "a", 1), (Yes(), "a"), (Yes(), Yes()), ((Yes(), Yes()),),
    ]


def not_numbers():
    """Things that are no numbers here."""
    return [thing for thing in odd_things() if type(thing) is not int] + ["0", "1", (), (0,), [0], b"\x00"]


def long_history(many):
    """So many lines, all begun at place 0."""
    return tuple((number, 0) for number in range(many))


def wrong_histories():
    """Things that are no histories."""
    return odd_things() + [
        (), [], [(0, 0)], ([0, 0],), ((0, 0), [1, 0]), (0, 0), ((0,),), ((0, 0, 0),), long_history(61),
        long_history(100), ((0, 1),), ((3, 10 ** 6),), ((0, 0), (0, 0)), ((0, 0), (0, 5)), ((5, 0), (4, 0)),
        ((0, 0), (7, 1), (7, 2)), ((0, 0), (7, 1), (6, 2)), ((0, 0), (1, 5), (2, 4)), ((0, 0), (1, 1), (2, 0)),
        ((-1, 0),), ((10 ** 9 + 1, 0),), ((0, 0), (10 ** 9 + 1, 0)), ((0, 0), (1, 10 ** 6 + 1)), ((0, -1),),
        ((0, -1), (1, 0)), ((0, 0), (1, -1)), ((False, 0),), ((0, False),), ((0, 0), (True, 0)),
        ((0, 0), (1, True)), ((True, False),), (("0", "0"),), "ab", ("ab",), {(0, 0): 0},
    ]


def wrong_places():
    """Things that are no places."""
    return not_numbers() + [-1, 10 ** 6 + 1, 10 ** 59, -10 ** 59]


def wrong_sayings():
    """Things that are no sayings: each part of a right one otherwise, and other kinds."""
    wrong = odd_things() + [
        (), (1,), (1, 2), (1, 2, 3), (1, 2, 3, 3, 3), [1, 2, 3, 3], ((1, 2, 3, 3),), [(1, 2, 3, 3)], "1233",
        (-1, 2, 3, 3), (8, 2, 3, 3), (1, -1, 3, 3), (1, 10 ** 9 + 1, 3, 3), (1, 2, -1, 0), (1, 2, -1, -1),
        (1, 2, 10 ** 6 + 1, 3), (1, 2, 10 ** 6 + 1, 10 ** 6 + 1), (1, 2, 3, 4), (1, 2, 0, 1), (1, 2, 3, -1),
        (1, 2, 10 ** 6, 10 ** 6 + 1), (10 ** 59, 2, 3, 3), (1, 10 ** 59, 3, 3), (1, 2, 10 ** 59, 3),
        (1, 2, 3, 10 ** 59),
        (True, 2, 3, 3), (1, True, 3, 3), (1, 2, True, 0), (1, 2, 3, True), (False, 2, 3, 3), (1, 2, 3, False),
        (Loud(), Loud(), Loud(), Loud()), (Yes(), Yes(), Yes(), Yes()), {1: 2}, range(4),
    ]
    for thing in not_numbers():
        wrong += [(thing, 2, 3, 3), (1, thing, 3, 3), (1, 2, thing, 3), (1, 2, 3, thing)]
    return wrong


class Case(unittest.TestCase):
    """A test case that can ask for a refusal of just one class with just these fields."""

    def refused(self, kind, fields, call, *told, **named):
        with self.assertRaises(kind) as caught:
            call(*told, **named)
        self.assertIs(type(caught.exception), kind)
        self.assertEqual(vars(caught.exception), fields)

    def same(self, one, other):
        """Equal and alike down to the innermost: 1 and True, a list and a tuple are unlike."""
        self.assertEqual(one, other)
        self.assertEqual(repr(one), repr(other))

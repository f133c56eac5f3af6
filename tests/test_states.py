"""Promises 2, 3, 6 and 7: a table by moments, going back, forgetting, a key's moments."""

import random
import unittest

from laterline.errors import NoKey, NoMoment, NoPlace, NoRow, NoTable, TooEarly, TooOld
from laterline.rows import plain
from laterline.states import State
from tests.helpers import Case, Yes, not_numbers, odd_things

ROWS = [("set", "a", 1), ("set", "b", 2), ("cut", "a"), ("cut", "c"), ("set", "b", 2), ("set", "a", 5)]


def state_of(rows, **named):
    state = State(**named)
    for row in rows:
        state.do(row)
    return state


def seen(state):
    """All that can be asked of a state."""
    moments = range(state.oldest(), state.moment() + 1)
    keys = ("a", "b", "c", "d", "zz")
    return (state.oldest(), state.moment(), len(state), state.table(), [state.table(at=at) for at in moments],
            [[state.value(key, at=at) for at in moments] for key in keys], [state.moments(key) for key in keys])


class BeginningTest(Case):

    def test_an_empty_one(self):
        state = State()
        self.same((state.oldest(), state.moment(), state.table(), len(state)), (0, 0, (), 0))
        self.same(state.value("a"), None)
        self.same(state.table(at=0), ())
        self.same(state.value("a", at=0), None)

    def test_a_base_and_a_table(self):
        state = State(base=7, table=(("a", 1), ("c", -3)))
        self.same((state.oldest(), state.moment(), len(state)), (7, 7, 2))
        self.same(state.table(), (("a", 1), ("c", -3)))
        self.same(state.table(at=7), (("a", 1), ("c", -3)))
        self.same((state.value("a"), state.value("b"), state.value("c", at=7)), (1, None, -3))
        self.same(state.do(("cut", "a")), 8)
        self.same((state.oldest(), state.moment()), (7, 8))
        self.same((state.table(), state.table(at=7)), ((("c", -3),), (("a", 1), ("c", -3))))

    def test_bounds_of_the_base(self):
        for base in (0, 1, 10 ** 6):
            self.same(State(base=base).moment(), base)
        self.same(State(base=10 ** 6).do(("cut", "a")), 10 ** 6 + 1)

    def test_refusals(self):
        for base in not_numbers() + [-1, 10 ** 6 + 1, 10 ** 59]:
            self.refused(NoPlace, {"place": base}, State, base=base)
        for table in odd_things() + [[], [("a", 1)], (["a", 1],), (("b", 1), ("a", 1)), (("a", True),)]:
            self.refused(NoTable, {}, State, table=table)
        self.refused(NoPlace, {"place": -1}, State, base=-1, table=[])

    def test_both_are_handed_by_their_names(self):
        with self.assertRaises(TypeError):
            State(0)


class DoTest(Case):

    def test_each_row_is_one_moment_more(self):
        state = State(base=3)
        self.same([state.do(row) for row in ROWS], [4, 5, 6, 7, 8, 9])
        self.same((state.moment(), state.oldest()), (9, 3))

    def test_a_refused_row_leaves_all_as_it_was(self):
        state = state_of(ROWS)
        before = seen(state)
        for thing in odd_things() + [list(ROWS[0]), ("set", "a", True), ("set", "a"), ("cut", "a", 1),
                                     ("set", "a", 10 ** 18 + 1), [ROWS[0]], ()]:
            self.refused(NoRow, {}, state.do, thing)
        self.same(seen(state), before)
        self.assertEqual(state, state_of(ROWS))


class AskingTest(Case):

    def test_tables_and_values_at_each_moment(self):
        table = (("c", 9), ("d", 4))
        state = state_of(ROWS, base=10, table=table)
        for done in range(len(ROWS) + 1):
            right = plain(ROWS[:done], table=table)
            self.same(state.table(at=10 + done), right)
            for key in ("a", "b", "c", "d", "e"):
                self.same(state.value(key, at=10 + done), dict(right).get(key))

    def test_none_and_nothing_ask_for_the_last_moment(self):
        state = state_of(ROWS)
        self.same(state.table(), (("a", 5), ("b", 2)))
        self.same(state.table(at=None), (("a", 5), ("b", 2)))
        self.same((state.value("a"), state.value("a", at=None), state.value("c")), (5, 5, None))

    def test_a_value_of_0_is_a_value(self):
        state = state_of([("set", "a", 0)])
        self.same((state.value("a"), state.table(), len(state)), (0, (("a", 0),), 1))
        state.forget(1)
        self.same((state.value("a"), state.moments("a"), len(state)), (0, [(1, 0)], 1))

    def test_len_counts_keys_with_a_value_now(self):
        state = State(table=(("x", 1),))
        lengths = [len(state)]
        for row in ROWS + [("cut", "x"), ("cut", "a"), ("cut", "b")]:
            state.do(row)
            lengths.append(len(state))
        self.same(lengths, [1, 2, 3, 2, 2, 2, 3, 2, 1, 0])
        state.go_back(2)
        self.same(len(state), 3)

    def test_refusals(self):
        state = state_of(ROWS, base=4)
        state.forget(6)
        before = seen(state)
        for key in odd_things() + ["abcdefghijklm", ["a"], ("a",)]:
            self.refused(NoKey, {}, state.value, key)
            self.refused(NoKey, {}, state.moments, key)
        for at in not_numbers() + [-1, -10 ** 59]:
            if at is not None:
                self.refused(NoMoment, {}, state.value, "a", at=at)
                self.refused(NoMoment, {}, state.table, at=at)
        for at in (11, 12, 10 ** 59):
            self.refused(TooEarly, {"place": 10}, state.value, "a", at=at)
            self.refused(TooEarly, {"place": 10}, state.table, at=at)
        for at in (0, 4, 5):
            self.refused(TooOld, {"since": 6}, state.value, "a", at=at)
            self.refused(TooOld, {"since": 6}, state.table, at=at)
        self.same(state.table(at=6), (("a", 1), ("b", 2)))
        self.same(state.table(at=10), (("a", 5), ("b", 2)))
        self.same(seen(state), before)

    def test_order_of_refusals(self):
        state = state_of(ROWS, base=4)
        for at in (-1, 0, 11, True):
            self.refused(NoKey, {}, state.value, "A", at=at)

    def test_a_moment_is_handed_by_its_name(self):
        state = State()
        with self.assertRaises(TypeError):
            state.value("a", 0)
        with self.assertRaises(TypeError):
            state.table(0)


class MomentsTest(Case):

    def test_sets_and_cuts(self):
        state = state_of(ROWS)
        self.same(state.moments("a"), [(1, 1), (3, None), (6, 5)])

    def test_a_key_set_to_the_same_value_again(self):
        self.same(state_of(ROWS).moments("b"), [(2, 2), (5, 2)])

    def test_a_cut_of_a_key_that_has_no_value(self):
        state = state_of(ROWS)
        self.same(state.moments("c"), [(4, None)])
        state.do(("cut", "c"))
        self.same(state.moments("c"), [(4, None), (7, None)])

    def test_a_key_that_no_row_has(self):
        self.same(state_of(ROWS).moments("d"), [])
        self.same(State().moments("d"), [])

    def test_a_key_of_the_first_table(self):
        state = state_of(ROWS, base=3, table=(("a", 8), ("d", 4)))
        self.same(state.moments("a"), [(3, 8), (4, 1), (6, None), (9, 5)])
        self.same(state.moments("d"), [(3, 4)])

    def test_behind_going_back(self):
        state = state_of(ROWS, table=(("c", 7),))
        state.go_back(3)
        self.same(state.moments("a"), [(1, 1), (3, None)])
        self.same(state.moments("b"), [(2, 2)])
        self.same(state.moments("c"), [(0, 7)])
        state.go_back(0)
        self.same((state.moments("a"), state.moments("c")), ([], [(0, 7)]))

    def test_behind_forgetting(self):
        state = state_of(ROWS, table=(("d", 4),))
        state.forget(2)
        self.same(state.moments("a"), [(2, 1), (3, None), (6, 5)])
        self.same(state.moments("b"), [(2, 2), (5, 2)])
        self.same(state.moments("c"), [(4, None)])
        self.same(state.moments("d"), [(2, 4)])
        state.forget(4)
        self.same(state.moments("a"), [(6, 5)])
        self.same(state.moments("b"), [(4, 2), (5, 2)])
        self.same(state.moments("c"), [])
        state.forget(6)
        self.same((state.moments("a"), state.moments("b"), state.moments("d")), ([(6, 5)], [(6, 2)], [(6, 4)]))


class GoBackTest(Case):

    def test_to_each_moment(self):
        for moment in range(3, 10):
            state = state_of(ROWS, base=3, table=(("c", 9),))
            self.same(state.go_back(moment), 9 - moment)
            twin = state_of(ROWS[:moment - 3], base=3, table=(("c", 9),))
            self.same(seen(state), seen(twin))
            self.assertEqual(state, twin)

    def test_to_the_last_moment_undoes_nothing(self):
        state = state_of(ROWS)
        before = seen(state)
        self.same(state.go_back(6), 0)
        self.same(seen(state), before)

    def test_to_the_oldest_moment_behind_forgetting(self):
        state = state_of(ROWS)
        state.forget(3)
        self.same(state.go_back(3), 3)
        self.same((state.oldest(), state.moment(), state.table()), (3, 3, (("b", 2),)))

    def test_rows_done_behind_it(self):
        state = state_of(ROWS)
        state.go_back(2)
        self.same(state.do(("set", "c", 3)), 3)
        self.same(state.table(), (("a", 1), ("b", 2), ("c", 3)))
        self.same(seen(state), seen(state_of(ROWS[:2] + [("set", "c", 3)])))

    def test_refusals(self):
        state = state_of(ROWS, base=4)
        state.forget(6)
        before = seen(state)
        for call in (state.go_back, state.forget):
            for moment in not_numbers() + [-1, -10 ** 59]:
                self.refused(NoMoment, {}, call, moment)
            for moment in (11, 10 ** 59):
                self.refused(TooEarly, {"place": 10}, call, moment)
            for moment in (0, 4, 5):
                self.refused(TooOld, {"since": 6}, call, moment)
        self.same(seen(state), before)


class ForgetTest(Case):

    def test_nothing_else_changes(self):
        for moment in range(3, 10):
            whole = state_of(ROWS, base=3, table=(("c", 9), ("d", 1)))
            state = state_of(ROWS, base=3, table=(("c", 9), ("d", 1)))
            self.assertIsNone(state.forget(moment))
            self.same((state.oldest(), state.moment(), len(state)), (moment, 9, len(whole)))
            for at in range(moment, 10):
                self.same(state.table(at=at), whole.table(at=at))
                for key in ("a", "b", "c", "d", "e"):
                    self.same(state.value(key, at=at), whole.value(key, at=at))

    def test_step_by_step_is_as_at_once(self):
        one = state_of(ROWS)
        other = state_of(ROWS)
        one.forget(4)
        for moment in (1, 1, 3, 4):
            other.forget(moment)
        self.assertEqual(one, other)
        self.same(seen(one), seen(other))

    def test_rows_go_on_behind_it(self):
        state = state_of(ROWS, base=3)
        state.forget(9)
        self.same(state.do(("cut", "a")), 10)
        self.same((state.table(at=9), state.table()), ((("a", 5), ("b", 2)), (("b", 2),)))
        self.same(state.go_back(9), 1)
        self.same(state.table(), (("a", 5), ("b", 2)))


class EqualTest(Case):

    def test_equal_ones(self):
        self.assertEqual(State(), State())
        self.assertEqual(State(), State(base=0, table=()))
        self.assertEqual(state_of(ROWS, base=2), state_of(ROWS, base=2))
        self.assertIs(state_of(ROWS) == state_of(ROWS), True)
        self.assertIs(state_of(ROWS) != state_of(ROWS), False)

    def test_by_way_of_rows_done_and_undone(self):
        state = state_of([("set", "z", 1), ("cut", "y"), ("set", "a", 9)])
        state.go_back(0)
        self.assertEqual(state, State())
        for row in ROWS:
            state.do(row)
        self.assertEqual(state, state_of(ROWS))
        state.do(("cut", "q"))
        self.assertNotEqual(state, state_of(ROWS))
        state.go_back(6)
        self.assertEqual(state, state_of(ROWS))

    def test_what_was_forgotten_does_not_count(self):
        one = state_of([("set", "a", 1), ("set", "b", 2)])
        other = state_of([("set", "b", 2), ("set", "a", 1)])
        self.assertNotEqual(one, other)
        one.forget(2)
        self.assertNotEqual(one, other)
        other.forget(2)
        self.assertEqual(one, other)
        cut = state_of([("set", "a", 1), ("cut", "a")])
        cut.forget(2)
        never = state_of([("cut", "b"), ("cut", "c")])
        never.forget(2)
        self.assertEqual(cut, never)

    def test_another_base(self):
        self.assertNotEqual(State(), State(base=1))
        one = state_of([("set", "a", 1)])
        one.forget(1)
        other = State(base=1, table=(("a", 1),))
        self.same(seen(one), seen(other))
        self.assertNotEqual(one, other)

    def test_other_moments(self):
        self.assertNotEqual(state_of(ROWS), state_of(ROWS[:-1]))
        self.assertNotEqual(State(), state_of([("cut", "a")]))
        self.assertNotEqual(state_of([("cut", "a")]), state_of([("cut", "b")]))
        one = state_of([("cut", "a"), ("cut", "a")])
        other = state_of([("cut", "a"), ("cut", "a")])
        other.forget(1)
        self.assertNotEqual(one, other)
        self.assertNotEqual(other, one)

    def test_another_oldest_moment_where_nothing_else_tells(self):
        emptied = state_of([("cut", "a")])
        emptied.forget(1)
        self.assertNotEqual(emptied, State())
        self.assertNotEqual(State(), emptied)

    def test_another_table(self):
        self.assertNotEqual(State(table=(("a", 1),)), State())
        self.assertNotEqual(State(table=(("a", 1),)), State(table=(("a", 2),)))
        self.assertNotEqual(state_of([("set", "a", 1), ("set", "a", 2)]), state_of([("set", "a", 0), ("set", "a", 2)]))
        self.assertNotEqual(state_of([("set", "a", 1)]), state_of([("set", "a", 1)], table=(("a", 1),)))

    def test_other_things(self):
        state = state_of(ROWS)
        for thing in odd_things() + [state.table(), 6, Yes()]:
            self.assertIs(state == thing, False)
            self.assertIs(state != thing, True)


class OwnTest(Case):

    def test_what_was_told_may_be_changed(self):
        state = state_of(ROWS)
        told = state.moments("a")
        told.append((9, 9))
        told[0] = None
        self.same(state.moments("a"), [(1, 1), (3, None), (6, 5)])
        state.moments("zz").append((1, 1))
        self.same(state.moments("zz"), [])
        self.assertIsNot(state.moments("a"), state.moments("a"))
        self.assertEqual(state, state_of(ROWS))

    def test_two_states_share_nothing(self):
        one, other = State(), State()
        one.do(("set", "a", 1))
        self.same((other.moment(), other.table()), (0, ()))

    def test_what_was_told_does_not_change_later(self):
        state = state_of(ROWS)
        told = state.moments("b")
        state.do(("set", "b", 7))
        state.forget(4)
        state.go_back(4)
        self.same(told, [(2, 2), (5, 2)])


class Model:
    """A state told plainly: all its rows, and the oldest moment."""

    def __init__(self, base, table):
        self.base, self.first, self.rows, self.since = base, table, [], base

    def last(self):
        return self.base + len(self.rows)

    def table(self, at):
        return plain(self.rows[:at - self.base], table=self.first)

    def moments(self, key):
        first = [(self.since, value) for name, value in self.table(self.since) if name == key]
        behind = list(enumerate(self.rows, start=self.base + 1))[self.since - self.base:]
        return first + [(at, row[2] if row[0] == "set" else None) for at, row in behind if row[1] == key]


class ModelTest(Case):

    def compare(self, state, model):
        self.same((state.oldest(), state.moment()), (model.since, model.last()))
        self.same(len(state), len(model.table(model.last())))
        for key in "abc":
            self.same(state.moments(key), model.moments(key))
        for at in range(model.since, model.last() + 1):
            table = model.table(at)
            self.same(state.table(at=at), table)
            self.same([state.value(key, at=at) for key in "abc"], [dict(table).get(key) for key in "abc"])

    def step(self, state, model, chance):
        word = chance.choice(["do"] * 8 + ["go_back", "forget"])
        if word == "do":
            key = chance.choice("abc")
            row = chance.choice([("set", key, chance.randint(-2, 2)), ("cut", key)])
            self.same(state.do(row), model.last() + 1)
            model.rows.append(row)
            return
        moment = chance.randint(max(model.since, model.last() - 5), model.last())
        if word == "forget":
            moment = chance.randint(model.since, min(model.since + 5, model.last()))
            self.assertIsNone(state.forget(moment))
            model.since = moment
            return
        self.same(state.go_back(moment), model.last() - moment)
        del model.rows[moment - model.base:]

    def test_long_runs(self):
        for seed in range(12):
            chance = random.Random(seed)
            table = chance.choice([(), (("a", 1),), (("b", 2), ("c", 0))])
            base = chance.choice([0, 1, 50])
            state, model = State(base=base, table=table), Model(base, table)
            for _ in range(80):
                self.step(state, model, chance)
                self.compare(state, model)


if __name__ == "__main__":
    unittest.main()

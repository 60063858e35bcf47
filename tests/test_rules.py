import unittest

from reentry import errors
from reentry.rules import Rule
from tests.values import SIXTY_DIGITS, any_values, check_error, values_other_than

WORDS = ("call", "answer", "out", "back")


def wrong_states():
    return values_other_than(lambda v: type(v) is int and 0 <= v <= 99) + [100, -1]


def wrong_events():
    """Values that are no event, with or without a value."""
    wrong = any_values() + [(), ("hang", 1), ("hang", "a"), ("hang", "a", 1), ("stop",), ("call",), ["hang"], "hang", ("Hang",)]
    for word in WORDS:
        wrong += [(word,), (word, "A"), (word, 1), (word, "a", 1, 1), [word, "a", 1], (word, ("a",)), (word, ["a"], 1), (word, None)]
        wrong += [(word, "nine9nine", 1), (word, "", 1)]
        wrong += [(word, "a", value) for value in values_other_than(lambda v: type(v) is int)]
    return wrong + [("ask", "a"), ("Call", "a", 1), (1, "a", 1), (None, "a"), (["call"], "a", 1)]


class TestRule(unittest.TestCase):
    def test_as_given(self):
        steps, bad = ((0, ("call", "a"), 99), (99, ("hang",), 0), (5, ("back", "b", -SIXTY_DIGITS), 5)), (7, 0, 99)
        for rule in (Rule(steps, bad), Rule(steps=steps, bad=bad), Rule(bad=bad, steps=steps)):
            self.assertIs(rule.steps, steps)
            self.assertIs(rule.bad, bad)
        empty = Rule((), ())
        self.assertEqual((empty.steps, empty.bad), ((), ()))
        self.assertTrue(empty)

    def test_each_word_without_a_value(self):
        for word in WORDS:
            rule = Rule(((0, (word, "a"), 1),), ())
            for value in (0, 1, -1, 40, SIXTY_DIGITS):
                self.assertEqual(rule.after(0, (word, "a", value)), 1)
                self.assertEqual(rule.after(state=0, event=(word, "a", value)), 1)
                self.assertEqual(rule.after(0, (word, "b", value)), 0)
                self.assertEqual(rule.after(2, (word, "a", value)), 2)
                for other in WORDS:
                    self.assertEqual(rule.after(0, (other, "a", value)), 1 if other == word else 0)
            self.assertEqual(rule.after(0, ("hang",)), 0)

    def test_each_word_with_a_value(self):
        for word in WORDS:
            for value in (0, 1, -1, SIXTY_DIGITS):
                rule = Rule(((0, (word, "a", value), 1),), ())
                self.assertEqual(rule.after(0, (word, "a", value)), 1)
                self.assertEqual(rule.after(0, (word, "a", value + 1)), 0)
                self.assertEqual(rule.after(0, (word, "b", value)), 0)

    def test_hang(self):
        rule = Rule(((0, ("hang",), 3), (3, ("hang",), 4)), (4,))
        self.assertEqual([rule.after(state, ("hang",)) for state in (0, 3, 4, 5)], [3, 4, 4, 5])
        self.assertEqual(rule.after(0, ("call", "hang", 0)), 0)

    def test_the_first_fitting_step(self):
        rule = Rule((
            (0, ("call", "a", 2), 1), (0, ("call", "a"), 2), (0, ("call", "a", 3), 3), (0, ("call", "a"), 4),
            (1, ("call", "a"), 0), (1, ("call", "a", 2), 5),
        ), ())
        self.assertEqual([rule.after(0, ("call", "a", value)) for value in (2, 3, 0)], [1, 2, 2])
        self.assertEqual([rule.after(1, ("call", "a", value)) for value in (2, 3)], [0, 0])

    def test_states_without_a_step_stay(self):
        rule = Rule(((0, ("out", "a"), 1),), ())
        for state in range(1, 100):
            self.assertEqual(rule.after(state, ("out", "a", 0)), state)
        for state in range(100):
            self.assertEqual(Rule((), ()).after(state, ("hang",)), state)

    def test_bad_states_stay(self):
        rule = Rule(((2, ("out", "a"), 1), (0, ("out", "a"), 2), (0, ("hang",), 1), (99, ("hang",), 0)), (2, 99))
        self.assertEqual(rule.after(0, ("out", "a", 0)), 2)
        self.assertEqual(rule.after(2, ("out", "a", 0)), 2)
        self.assertEqual(rule.after(99, ("hang",)), 99)
        started = Rule(((0, ("out", "a"), 1),), (0,))
        self.assertEqual(started.after(0, ("out", "a", 0)), 0)

    def test_equality(self):
        steps = ((0, ("call", "a"), 1), (1, ("hang",), 0))
        one = Rule(steps, (1, 2))
        self.assertEqual(one, Rule(tuple(list(steps)), (1, 2)))
        self.assertEqual(Rule((), ()), Rule((), ()))
        for other in (Rule(steps[::-1], (1, 2)), Rule(steps, (2, 1)), Rule(steps, (1,)), Rule(steps[:1], (1, 2)), Rule((), ())):
            self.assertIs(one == other, False)
            self.assertIs(one != other, True)
        for other in (steps, (steps, (1, 2)), None, 1, True, "rule", object()):
            self.assertIs(one == other, False)
            self.assertIs(other == one, False)


class TestErrors(unittest.TestCase):
    def check_steps(self, index, *args, **named):
        check_error(self, errors.InvalidSteps, {"index": index}, Rule, *args, **named)

    def check_bad(self, index, *args, **named):
        check_error(self, errors.InvalidBad, {"index": index}, Rule, *args, **named)

    def test_steps_that_are_no_tuple(self):
        for value in values_other_than(lambda v: isinstance(v, tuple)) + [[(0, ("hang",), 0)]]:
            self.check_steps(None, value, ())
            self.check_steps(None, value, [])
            self.check_steps(None, bad=(True,), steps=value)

    def check_step(self, step):
        good = (0, ("call", "a", 1), 1)
        for index in range(3):
            steps = [good, good, good]
            steps[index] = step
            self.check_steps(index, tuple(steps), ())
            self.check_steps(index, tuple(steps) + (5,), (True,))

    def test_wrong_steps(self):
        for step in any_values():
            self.check_step(step)
        for state in wrong_states():
            self.check_step((state, ("hang",), 0))
            self.check_step((0, ("hang",), state))
        for event in wrong_events():
            self.check_step((0, event, 0))
        for step in ((0, ("hang",)), (0, ("hang",), 0, 0), [0, ("hang",), 0], (("hang",), 0, 0), ()):
            self.check_step(step)

    def test_wrong_bad_states(self):
        for value in values_other_than(lambda v: isinstance(v, tuple)) + [[0], {0: True}]:
            self.check_bad(None, (), value)
        for state in wrong_states():
            for index in range(3):
                bad = [3, 2, 1]
                bad[index] = state
                self.check_bad(index, (), tuple(bad))
                self.check_bad(index, (), tuple(bad) + (state, 3))
        self.check_bad(1, (), (0, 0))
        self.check_bad(3, (), (5, 0, 99, 5, 0))
        self.check_bad(1, bad=(1, True), steps=())

    def test_both_at_once(self):
        self.check_steps(0, (5,), (5, 5))
        self.check_steps(None, [], None)

    def test_after(self):
        rule = Rule(((0, ("call", "a"), 1),), (1,))
        good = ("call", "a", 1)
        for state in wrong_states():
            check_error(self, errors.InvalidValue, {"value": state}, rule.after, state, good)
            check_error(self, errors.InvalidValue, {"value": state}, rule.after, state, "wrong")
            check_error(self, errors.InvalidValue, {"value": state}, rule.after, event=5, state=state)
        without_value = [(word, "a") for word in WORDS]
        for event in wrong_events() + without_value:
            for state in (0, 1, 99):
                check_error(self, errors.InvalidMove, {"value": event}, rule.after, state, event)
            check_error(self, errors.InvalidMove, {"value": event}, rule.after, event=event, state=0)

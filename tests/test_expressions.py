import unittest

from reentry import errors
from reentry.expressions import (
    Below, Both, Choose, Either, Equal, Expression, Minus, Not, Number, Plus, Times, Variable,
)
from tests.values import SIXTY_DIGITS, any_values, check_error, values_other_than

PAIRS = {
    "plus": (Plus, lambda a, b: a + b),
    "minus": (Minus, lambda a, b: a - b),
    "times": (Times, lambda a, b: a * b),
    "equal": (Equal, lambda a, b: int(a == b)),
    "below": (Below, lambda a, b: int(a < b)),
    "both": (Both, lambda a, b: int(a != 0 and b != 0)),
    "either": (Either, lambda a, b: int(a != 0 or b != 0)),
}
KINDS = [Number, Variable, Not, Choose] + [kind for kind, _ in PAIRS.values()]
N, K, X = Variable("n"), Variable("k"), Variable("x1")
FIFTY = int("7" * 50)


def of_depth(depth):
    made = N
    for _ in range(depth - 1):
        made = Not(made)
    return made


def of_parts(parts):
    """A balanced expression with so many parts."""
    if parts == 1:
        return N
    if parts == 2:
        return Not(N)
    left = (parts - 1) // 2
    return Plus(of_parts(left), of_parts(parts - 1 - left))


class TestKinds(unittest.TestCase):
    def test_numbers(self):
        for number in (0, 1, 7, 10, 100, 998, 999):
            for made in (Number(number), Number(number=number)):
                self.assertEqual(str(made), str(number))
                self.assertEqual(repr(made), f"Expression({number})")
                self.assertEqual((made.WORD, made.names, made.parts, made.depth), ("number", (), 1, 1))
                self.assertEqual(made.evaluate({}), number)

    def test_variables(self):
        for name in ("n", "abcdefgh", "z9", "plus", "number", "into"):
            for made in (Variable(name), Variable(name=name)):
                self.assertEqual((str(made), repr(made)), (name, f"Expression({name})"))
                self.assertEqual((made.WORD, made.names, made.parts, made.depth), ("variable", (name,), 1, 1))
                self.assertEqual(made.evaluate({name: -5}), -5)

    def test_kinds_of_two(self):
        for word, (kind, _) in PAIRS.items():
            for made in (kind(N + X, K), kind(first=N + X, second=K), kind(N + X, second=K)):
                self.assertEqual(str(made), f"{word}(plus(n, x1), k)")
                self.assertEqual(repr(made), f"Expression({word}(plus(n, x1), k))")
                self.assertEqual((made.WORD, kind.WORD), (word, word))
                self.assertEqual((made.names, made.parts, made.depth), (("k", "n", "x1"), 5, 3))

    def test_not_and_choose(self):
        for made in (Not(N), Not(first=N)):
            self.assertEqual((str(made), repr(made), made.WORD), ("not(n)", "Expression(not(n))", "not"))
            self.assertEqual((made.names, made.parts, made.depth), (("n",), 2, 2))
        for made in (Choose(N, K, Number(3)), Choose(test=N, first=K, second=Number(3)), Choose(N, second=Number(3), first=K)):
            self.assertEqual((str(made), made.WORD), ("choose(n, k, 3)", "choose"))
            self.assertEqual(repr(made), "Expression(choose(n, k, 3))")
            self.assertEqual((made.names, made.parts, made.depth), (("k", "n"), 4, 2))

    def test_names_are_ascending_and_different(self):
        made = Choose(Variable("b"), Variable("a1") + Variable("b"), Variable("a") * Variable("a10"))
        self.assertEqual(made.names, ("a", "a1", "a10", "b"))

    def test_an_object_is_of_one_kind(self):
        made = [Number(1), N, Not(N), Choose(N, N, N)] + [kind(N, N) for kind, _ in PAIRS.values()]
        for kind, one in zip(KINDS, made):
            self.assertIs(type(one), kind)
            self.assertIsInstance(one, Expression)
            for other in KINDS:
                self.assertEqual(isinstance(one, other), other is kind)

    def test_operators(self):
        for made, text in (
            (N + K, "plus(n, k)"), (N - K, "minus(n, k)"), (N * K, "times(n, k)"),
            (N & K, "both(n, k)"), (N | K, "either(n, k)"), (~N, "not(n)"),
        ):
            self.assertEqual(str(made), text)
            self.assertEqual(type(made).WORD, text.split("(")[0])

    def test_properties_are_set_on_each_object(self):
        for made in (Number(1), N, Not(N), N + K, Choose(N, K, N)):
            for name in ("names", "parts", "depth"):
                self.assertIn(name, dir(made))
        self.assertIn("evaluate", vars(Expression))


class TestEquality(unittest.TestCase):
    def test_equal_exactly_with_the_same_text(self):
        made = [Number(1), Number(2), N, K, Not(N), Not(K), Choose(N, K, N), Choose(N, N, K), Variable("plus")]
        made += [kind(first, second) for kind, _ in PAIRS.values() for first in (N, K) for second in (N, K)]
        again = [Number(1), Number(2), Variable("n"), K, ~N, ~K, Choose(N, K, N), Choose(N, N, K), Variable("plus")]
        again += [kind(first, second) for kind, _ in PAIRS.values() for first in (N, K) for second in (N, K)]
        for index, one in enumerate(made):
            for place, other in enumerate(again):
                self.assertEqual(str(one) == str(other), index == place)
                self.assertIs(one == other, index == place)
                self.assertIs(one != other, index != place)

    def test_never_equal_to_other_values(self):
        for one in (Number(1), N, N + K):
            for other in ("1", 1, "n", "plus(n, k)", None, ("n",), [one], Variable, True, object()):
                self.assertIs(one == other, False)
                self.assertIs(other == one, False)
                self.assertIs(one != other, True)

    def test_expressions_are_true(self):
        self.assertTrue(Number(0))
        self.assertTrue(Not(Number(1)))


class TestErrors(unittest.TestCase):
    def test_numbers(self):
        for value in values_other_than(lambda v: type(v) is int and 0 <= v <= 999) + [-1, 1000, SIXTY_DIGITS]:
            check_error(self, errors.InvalidNumber, {"value": value}, Number, value)
            check_error(self, errors.InvalidNumber, {"value": value}, Number, number=value)

    def test_variables(self):
        for value in values_other_than(lambda v: v == "a" and isinstance(v, str)) + ["n ", "N", "nine9nine"]:
            check_error(self, errors.InvalidName, {"value": value}, Variable, value)
            check_error(self, errors.InvalidName, {"value": value}, Variable, name=value)

    def wrong(self):
        return values_other_than(lambda v: isinstance(v, Expression)) + [Expression, Variable]

    def check_inside(self, value, kind, /, *args, **named):
        check_error(self, errors.NotAnExpression, {"value": value}, kind, *args, **named)

    def test_each_wrong_argument_at_each_place(self):
        for value in self.wrong():
            self.check_inside(value, Not, value)
            self.check_inside(value, Not, first=value)
            for kind, _ in PAIRS.values():
                self.check_inside(value, kind, value, N)
                self.check_inside(value, kind, N, value)
                self.check_inside(value, kind, value, "other")
                self.check_inside(value, kind, second="other", first=value)
            self.check_inside(value, Choose, value, N, N)
            self.check_inside(value, Choose, N, value, N)
            self.check_inside(value, Choose, N, N, value)
            self.check_inside(value, Choose, N, value, "other")
            self.check_inside(value, Choose, second="other", first=["more"], test=value)

    def test_right_operands(self):
        for value in self.wrong():
            self.check_inside(value, lambda: N + value)
            self.check_inside(value, lambda: N - value)
            self.check_inside(value, lambda: N * value)
            self.check_inside(value, lambda: N & value)
            self.check_inside(value, lambda: N | value)

    def check_limit(self, limit, action, *args):
        check_error(self, errors.TooMany, {"limit": limit}, action, *args)

    def test_parts(self):
        self.assertEqual((of_parts(40).parts, of_parts(39).parts), (40, 39))
        self.assertLessEqual(of_parts(40).depth, 6)
        for kind, _ in PAIRS.values():
            self.assertEqual(kind(of_parts(20), of_parts(19)).parts, 40)
            self.check_limit(40, kind, of_parts(20), of_parts(20))
            self.check_limit(40, kind, of_parts(39), N)
        self.assertEqual(Choose(of_parts(13), of_parts(13), of_parts(13)).parts, 40)
        self.check_limit(40, Choose, of_parts(13), of_parts(13), of_parts(14))
        full = Choose(N, of_parts(20), of_parts(18))
        self.assertEqual((Choose(N, of_parts(20), of_parts(18)).parts), 40)
        self.check_limit(40, Not, full)
        for action in (lambda: full + N, lambda: full - N, lambda: full * N, lambda: full & N, lambda: full | N, lambda: ~full):
            self.check_limit(40, action)

    def test_depth(self):
        deep = of_depth(6)
        self.assertEqual((deep.depth, deep.parts), (6, 6))
        self.check_limit(6, Not, deep)
        for kind, _ in PAIRS.values():
            self.assertEqual(kind(of_depth(5), N).depth, 6)
            self.assertEqual(kind(N, of_depth(5)).depth, 6)
            self.check_limit(6, kind, deep, N)
            self.check_limit(6, kind, N, deep)
        for place in range(3):
            inside = [N, N, N]
            inside[place] = of_depth(5)
            self.assertEqual(Choose(*inside).depth, 6)
            inside[place] = deep
            self.check_limit(6, Choose, *inside)
        for action in (lambda: deep + N, lambda: deep - N, lambda: deep * N, lambda: deep & N, lambda: deep | N, lambda: ~deep):
            self.check_limit(6, action)

    def test_parts_come_before_depth_and_wrong_arguments_before_both(self):
        deep, wide = of_depth(6), of_parts(36)
        self.check_limit(40, Plus, deep, wide)
        self.check_limit(40, Choose, N, wide, deep)
        self.check_limit(6, Plus, deep, of_parts(33))
        self.check_limit(40, Plus, deep, of_parts(34))
        for kind in (Plus, Choose):
            args = (deep, wide, "x") if kind is Choose else (wide, "x")
            check_error(self, errors.NotAnExpression, {"value": "x"}, kind, *args)


class TestValues(unittest.TestCase):
    NUMBERS = (0, 1, 2, -1, -3, 999, FIFTY, -FIFTY, FIFTY + 1)

    def test_values_of_two(self):
        for kind, value_of in PAIRS.values():
            made = kind(N, K)
            for n in self.NUMBERS:
                for k in self.NUMBERS:
                    value = made.evaluate({"n": n, "k": k})
                    self.assertIs(type(value), int)
                    self.assertEqual(value, value_of(n, k))

    def test_not_and_choose(self):
        for n in self.NUMBERS:
            self.assertEqual(Not(N).evaluate({"n": n}), int(n == 0))
            for k in self.NUMBERS:
                self.assertEqual(Choose(N, K, X).evaluate({"n": n, "k": k, "x1": 12}), k if n != 0 else 12)

    def test_values_are_exact(self):
        made = N * N
        for _ in range(4):
            made = made * N
        self.assertEqual(made.evaluate({"n": FIFTY}), FIFTY ** 6)
        self.assertEqual(Minus(N, K).evaluate({"n": 1, "k": FIFTY}), 1 - FIFTY)
        big = N
        for _ in range(5):
            big = Times(big, big) if big.parts < 20 else Times(big, N)
        self.assertEqual(big.depth, 6)
        self.assertEqual(big.evaluate({"n": SIXTY_DIGITS}), SIXTY_DIGITS ** 17)

    def test_names_are_passed_by_name_too(self):
        self.assertEqual((N + K).evaluate(values={"n": 2, "k": 3}), 5)

    def test_more_keys_do_not_matter(self):
        values = {"n": 1, "other": True, "K": None, 3: "x", (): 1, None: 0, "k": 2, "x1": "text"}
        before = dict(values)
        self.assertEqual((N + K).evaluate(values), 3)
        self.assertEqual(values, before)

    def check_wrong(self, made, values):
        check_error(self, errors.InvalidValue, {"value": values}, made.evaluate, values)
        check_error(self, errors.InvalidValue, {"value": values}, made.evaluate, values=values)

    def test_each_name_needs_an_integer(self):
        made = Plus(N, Choose(X, K, N))
        good = {"n": 1, "k": 2, "x1": 3}
        for name in good:
            left_out = {key: good[key] for key in good if key != name}
            self.check_wrong(made, left_out)
            for wrong in values_other_than(lambda v: type(v) is int):
                self.check_wrong(made, {**good, name: wrong})

    def test_values_must_be_a_dict(self):
        for made in (Number(1), N, N + K):
            for value in values_other_than(lambda v: isinstance(v, dict)) + [[("n", 1)], (("n", 1), ("k", 1))]:
                self.check_wrong(made, value)
        self.assertEqual(Number(1).evaluate({}), 1)
        self.check_wrong(N, {})

    def test_a_name_is_needed_though_its_side_is_not_chosen(self):
        for test, missing in ((0, "n"), (1, "k")):
            made = Choose(Number(test), N, K)
            values = {"n": 4, "k": 5}
            self.assertEqual(made.evaluate(values), 4 if test else 5)
            del values[missing]
            self.check_wrong(made, values)
            self.check_wrong(made, {**values, missing: True})
        self.check_wrong(Both(Number(0), N), {})
        self.check_wrong(Either(Number(1), N), {"n": False})

    def test_nothing_that_is_passed_changes(self):
        values = {"n": 1, "k": [2]}
        self.check_wrong(N + K, values)
        self.assertEqual(values, {"n": 1, "k": [2]})

    def test_any_values(self):
        for value in any_values():
            if not (isinstance(value, dict) and "a" in value):
                self.check_wrong(Variable("a"), value)

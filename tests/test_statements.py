import unittest

from reentry import errors
from reentry.expressions import Expression, Number, Variable, read_expression
from reentry.statements import Assign, Attempt, Call, Fail, If, Return, Statement, While
from tests.values import check_error, values_other_than

N, K, ONE = Variable("n"), Variable("k"), Number(1)
FAIL = Fail()
KINDS = (Assign, If, While, Call, Return, Fail, Attempt)


def one_of_each():
    return (Assign("n", ONE), If(N, (FAIL,)), While(N, (FAIL,)), Call("ask", N), Return(N), Fail(), Attempt((FAIL,)))


def of_height(height, kind=0):
    """A statement of this height, of nested statements with one body or two."""
    made = FAIL
    for level in range(height - 1):
        made = (If(N, (made,)), While(N, (made,)), Attempt((made,)), If(N, (), (made,)), Attempt((), (made,)))[(level + kind) % 5]
    return made


def of_amount(amount):
    """A statement that is `amount` statements."""
    return While(N, (FAIL,) * (amount - 1))


class TestKinds(unittest.TestCase):
    def check(self, made, text, amount=1, height=1):
        self.assertEqual(str(made), text)
        self.assertEqual(repr(made), f"Statement({text.split(chr(10))[0]})")
        self.assertEqual((made.amount, made.height), (amount, height))
        self.assertIsInstance(made, Statement)

    def test_without_bodies(self):
        for made in (Assign("n", N + ONE), Assign(name="n", expression=N + ONE), Assign("n", expression=N + ONE)):
            self.check(made, "assign n plus(n, 1)")
        for made in (Call("ask", N), Call(name="ask", expression=N), Call("ask", N, None), Call("ask", N, into=None)):
            self.check(made, "call ask n")
        for made in (Call("ask", N, "k"), Call(name="ask", expression=N, into="k"), Call("ask", into="k", expression=N)):
            self.check(made, "call ask n into k")
        for made in (Return(K), Return(expression=K)):
            self.check(made, "return k")
        self.check(Fail(), "fail")

    def test_one_body(self):
        for made in (If(N, (FAIL,)), If(test=N, body=(FAIL,)), If(N, (FAIL,), ()), If(N, (FAIL,), otherwise=())):
            self.check(made, "if n\n  fail", 2, 2)
        for made in (While(N, (FAIL,)), While(test=N, body=(FAIL,)), While(N, body=(FAIL,))):
            self.check(made, "while n\n  fail", 2, 2)
        for made in (Attempt((FAIL,)), Attempt(body=(FAIL,)), Attempt((FAIL,), ()), Attempt((FAIL,), handler=())):
            self.check(made, "attempt\n  fail", 2, 2)

    def test_two_bodies(self):
        first, second = (FAIL, Return(N)), (Assign("n", K),)
        for made in (If(N, first, second), If(otherwise=second, body=first, test=N)):
            self.check(made, "if n\n  fail\n  return n\nelse\n  assign n k", 4, 2)
        for made in (Attempt(first, second), Attempt(handler=second, body=first)):
            self.check(made, "attempt\n  fail\n  return n\nelse\n  assign n k", 4, 2)

    def test_empty_bodies(self):
        self.check(If(N, ()), "if n")
        self.check(If(N, (), ()), "if n")
        self.check(While(N, ()), "while n")
        self.check(Attempt(()), "attempt")
        self.check(If(N, (), (FAIL,)), "if n\nelse\n  fail", 2, 2)
        self.check(Attempt((), (FAIL,)), "attempt\nelse\n  fail", 2, 2)

    def test_nested(self):
        inner = If(K, (Attempt((), (FAIL,)),), (While(N, ()),))
        made = Attempt((Call("ask", N, "y"), inner), (Return(N), inner))
        text = "\n".join([
            "attempt", "  call ask n into y", "  if k", "    attempt", "    else", "      fail", "  else", "    while n",
            "else", "  return n", "  if k", "    attempt", "    else", "      fail", "  else", "    while n",
        ])
        self.check(made, text, 11, 4)

    def test_the_greatest_height_of_all_bodies(self):
        for first in range(1, 5):
            for second in range(1, 5):
                for kind in range(5):
                    bodies = (FAIL, of_height(first, kind)), (of_height(second, kind), FAIL)
                    self.assertEqual(If(N, *bodies).height, 1 + max(first, second))
                    self.assertEqual(Attempt(*bodies).height, 1 + max(first, second))
                    self.assertEqual(While(N, bodies[0]).height, 1 + first)
                    self.assertEqual(If(N, *bodies).amount, first + second + 3)

    def test_an_object_is_of_one_kind(self):
        for kind, made in zip(KINDS, one_of_each()):
            self.assertIs(type(made), kind)
            for other in KINDS:
                self.assertEqual(isinstance(made, other), kind is other)

    def test_statements_are_true(self):
        self.assertTrue(Fail())
        self.assertTrue(Attempt(()))


class TestEquality(unittest.TestCase):
    def made(self):
        body, other = (FAIL,), (Return(N),)
        return list(one_of_each()[:6]) + [
            Assign("k", ONE), Assign("n", Number(2)), Call("ask", N, "n"), Call("ask", K), Call("tell", N), Return(K),
            If(K, body), If(N, ()), If(N, other), If(N, body, other), If(N, (), body), While(K, body), While(N, ()),
            Attempt(body), Attempt(()), Attempt(body, other), Attempt((), body), Attempt(other, body),
            Attempt((Attempt(body),)), Attempt((Attempt(()), FAIL)),
        ]

    def test_equal_exactly_with_the_same_lines(self):
        for index, one in enumerate(self.made()):
            for place, other in enumerate(self.made()):
                self.assertEqual(str(one) == str(other), index == place)
                self.assertIs(one == other, index == place)
                self.assertIs(one != other, index != place)
        self.assertEqual(If(N, (FAIL,)), If(N, (FAIL,), ()))
        self.assertEqual(Assign("n", read_expression("plus(n, 1)")), Assign("n", N + ONE))

    def test_never_equal_to_other_values(self):
        for made in self.made():
            for other in (str(made), None, 1, (made,), [made], True, Fail, Variable("fail"), ("fail",), object()):
                self.assertIs(made == other, False)
                self.assertIs(made != other, True)


class TestErrors(unittest.TestCase):
    def wrong_names(self):
        return values_other_than(lambda v: isinstance(v, str) and v == "a") + ["nine9nine", "n "]

    def wrong_expressions(self):
        return values_other_than(lambda v: isinstance(v, Expression)) + ["n", FAIL]

    def check_name(self, value, action, *args, **named):
        check_error(self, errors.InvalidName, {"value": value}, action, *args, **named)

    def check_expression(self, value, action, /, *args, **named):
        check_error(self, errors.NotAnExpression, {"value": value}, action, *args, **named)

    def check_body(self, index, action, /, *args, **named):
        check_error(self, errors.InvalidBody, {"index": index}, action, *args, **named)

    def test_names(self):
        for value in self.wrong_names():
            self.check_name(value, Assign, value, N)
            self.check_name(value, Assign, name=value, expression="x")
            self.check_name(value, Call, value, N)
            self.check_name(value, Call, value, "x", 5)
            if value is not None:
                self.check_name(value, Call, "ask", N, value)
                self.check_name(value, Call, "ask", N, into=value)

    def test_expressions(self):
        for value in self.wrong_expressions():
            self.check_expression(value, Assign, "n", value)
            self.check_expression(value, Assign, expression=value, name="n")
            self.check_expression(value, Call, "ask", value)
            self.check_expression(value, Call, "ask", value, 5)
            self.check_expression(value, Return, value)
            self.check_expression(value, Return, expression=value)
            self.check_expression(value, If, value, ())
            self.check_expression(value, If, value, [], [])
            self.check_expression(value, If, test=value, body=[], otherwise=5)
            self.check_expression(value, While, value, ())
            self.check_expression(value, While, body=5, test=value)

    def test_values_that_are_no_bodies(self):
        wrong = values_other_than(lambda v: isinstance(v, tuple)) + [[FAIL], [], FAIL, {"fail": FAIL}]
        for value in wrong:
            self.check_body(None, If, N, value)
            self.check_body(None, If, N, value, [])
            self.check_body(None, If, N, (FAIL,), value)
            self.check_body(None, If, test=N, otherwise=value, body=())
            self.check_body(None, While, N, value)
            self.check_body(None, Attempt, value)
            self.check_body(None, Attempt, value, (5,))
            self.check_body(None, Attempt, (), value)
            self.check_body(None, Attempt, handler=value, body=(FAIL,))

    def test_wrong_elements_of_bodies(self):
        for value in values_other_than(lambda v: isinstance(v, Statement)) + [(FAIL,), [FAIL], "fail", Fail]:
            for index in range(4):
                body = [FAIL, Return(N), FAIL, Attempt(())]
                body[index] = value
                for wrong in (tuple(body), tuple(body) + (5,)):
                    self.check_body(index, If, N, wrong)
                    self.check_body(index, If, N, wrong, [FAIL])
                    self.check_body(index, If, N, (FAIL,), wrong)
                    self.check_body(index, While, N, wrong)
                    self.check_body(index, Attempt, wrong)
                    self.check_body(index, Attempt, wrong, [FAIL])
                    self.check_body(index, Attempt, (FAIL,), wrong)

    def check_limit(self, limit, action, *args):
        check_error(self, errors.TooMany, {"limit": limit}, action, *args)

    def test_amounts(self):
        body = (FAIL,) * 399
        for made in (While(N, body), If(N, body), If(N, (), body), If(N, body[:200], body[:199]), Attempt(body), Attempt((), body)):
            self.assertEqual(made.amount, 400)
        self.assertEqual(If(N, (of_amount(300), of_amount(99))).amount, 400)
        self.check_limit(400, While, N, body + (FAIL,))
        self.check_limit(400, If, N, body + (FAIL,))
        self.check_limit(400, If, N, (), body + (FAIL,))
        self.check_limit(400, If, N, body[:200], body[:200])
        self.check_limit(400, Attempt, body, (FAIL,))
        self.check_limit(400, Attempt, (of_amount(400),))
        self.check_limit(400, If, N, (of_amount(200),), (of_amount(200),))

    def test_levels(self):
        for kind in range(5):
            self.assertEqual(of_height(8, kind).height, 8)
            seven, eight = of_height(7, kind), of_height(8, kind)
            for index in range(2):
                bodies = [(FAIL,), (FAIL,)]
                bodies[index] = (FAIL, seven, FAIL)
                self.assertEqual((If(N, *bodies).height, Attempt(*bodies).height), (8, 8))
                bodies[index] = (FAIL, eight)
                self.check_limit(8, If, N, *bodies)
                self.check_limit(8, Attempt, *bodies)
            self.assertEqual(While(N, (seven,)).height, 8)
            self.check_limit(8, While, N, (eight, FAIL))

    def test_amounts_come_before_levels_and_wrong_elements_before_both(self):
        deep, many = of_height(8), (FAIL,) * 400
        self.check_limit(400, While, N, many + (deep,))
        self.check_limit(400, If, N, (deep,), many)
        self.check_limit(400, Attempt, many, (deep,))
        self.check_limit(8, While, N, many[:391] + (deep,))
        self.check_limit(400, While, N, many[:392] + (deep,))
        self.check_body(0, If, N, many, (5, deep))
        self.check_body(None, Attempt, many + (deep,), [])
        self.check_body(400, While, N, many + (5,))

    def test_lists_that_are_passed_stay_as_they_are(self):
        body = [FAIL]
        self.check_body(None, If, N, body)
        self.assertEqual(body, [FAIL])

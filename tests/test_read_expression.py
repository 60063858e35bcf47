import re
import unittest

from reentry import errors
from reentry.expressions import (
    Below, Both, Choose, Either, Equal, Expression, Minus, Not, Number, Plus, Times, Variable, read_expression,
)
from tests.test_expressions import of_depth, of_parts
from tests.values import check_error, values_other_than

N, K = Variable("n"), Variable("k")
SIGNS = "abnz09AZ(), \n_-+.'#~"
ARITIES = {
    "plus": 2, "minus": 2, "times": 2, "equal": 2, "below": 2, "both": 2, "either": 2, "not": 1, "choose": 3,
}
INNERMOST = re.compile(r"([a-z]+)\(((?:[a-z0-9]+|<[0-9]+,[0-9]+>)(?:, (?:[a-z0-9]+|<[0-9]+,[0-9]+>))*)\)")
LEAF = re.compile(r"0|[1-9][0-9]{0,2}|[a-z][a-z0-9]{0,7}")


def measured(part):
    """The parts and depth of a leaf, or of what stands for an expression; None if it is neither."""
    if part.startswith("<"):
        return tuple(int(number) for number in part[1:-1].split(","))
    return (1, 1) if LEAF.fullmatch(part) else None


def is_text(text):
    """Whether this is the text of an expression, found from the inside out."""
    if "<" in text:
        return False
    while found := INNERMOST.search(text):
        parts = [measured(part) for part in re.findall(r"<[^>]*>|[a-z0-9]+", found[2])]
        if None in parts or ARITIES.get(found[1]) != len(parts):
            return False
        many, depth = 1 + sum(part[0] for part in parts), 1 + max(part[1] for part in parts)
        text = f"{text[:found.start()]}<{many},{depth}>{text[found.end():]}"
    if not re.fullmatch(r"<[0-9]+,[0-9]+>|[a-z0-9]+", text):
        return False
    size = measured(text)
    return size is not None and size[0] <= 40 and size[1] <= 6


def changed(text):
    """All texts with one sign put in, exchanged or left out."""
    for place in range(len(text) + 1):
        for sign in SIGNS:
            yield text[:place] + sign + text[place:]
            yield text[:place] + sign + text[place + 1:]
        yield text[:place] + text[place + 1:]


class TestReadExpression(unittest.TestCase):
    def check(self, text, expected):
        for made in (read_expression(text), read_expression(text=text)):
            self.assertIs(type(made), type(expected))
            self.assertEqual(made, expected)
            self.assertEqual((str(made), made.parts, made.depth), (text, expected.parts, expected.depth))

    def check_wrong(self, text):
        check_error(self, errors.InvalidText, {"value": text}, read_expression, text)

    def test_each_kind(self):
        for made in (
            Number(0), Number(7), Number(10), Number(999), N, Variable("abcdefgh"), Variable("a1"), Not(N),
            Plus(N, K), Minus(N, Number(3)), Times(Number(0), K), Equal(N, K), Below(N, N), Both(K, N),
            Either(K, K), Choose(N, K, Number(12)), Choose(Below(N, Number(3)), N + K, Number(0)),
        ):
            self.check(str(made), made)

    def test_the_sides_stay_where_they_are(self):
        self.assertEqual(read_expression("minus(n, k)").evaluate({"n": 5, "k": 3}), 2)
        chosen = read_expression("choose(a, b, c)")
        self.assertEqual([chosen.evaluate({"a": a, "b": 1, "c": 2}) for a in (0, 1)], [2, 1])

    def test_words_as_names(self):
        for word in list(ARITIES) + ["number", "variable", "into", "else"]:
            self.check(word, Variable(word))
            if ARITIES.get(word) != 1:
                self.check_wrong(f"{word}({word})")
            self.check(f"not({word})", Not(Variable(word)))
        self.check("plus(plus, not(not))", Plus(Variable("plus"), Not(Variable("not"))))
        self.check("choose(choose, plus, equal)", Choose(Variable("choose"), Variable("plus"), Variable("equal")))
        for text in ("number(n)", "number(1)", "variable(n)", "into(n)", "n(n)", "1(n)", "(n)", "(n, k)"):
            self.check_wrong(text)

    def test_numbers(self):
        for number in range(1000):
            self.check(str(number), Number(number))
        for text in ("00", "01", "000", "007", "0999", "1000", "9999", "-1", "+1", "1_0", "0x1", "1a", "1.0", "9" * 5000):
            self.check_wrong(text)
            self.check_wrong(f"plus(n, {text})")

    def test_names(self):
        for text in ("", "abcdefghi", "N", "aB", "a_b", "_", "a" * 20000, "n n", "n, k"):
            self.check_wrong(text)

    def test_spaces_and_newlines(self):
        for text in (
            " n", "n ", "\nn", "n\n", " ", "\n", "plus (n, k)", "plus( n, k)", "plus(n , k)", "plus(n,k)",
            "plus(n,  k)", "plus(n, k )", "plus(n, k) ", "plus(n,\nk)", "plus(n, k)\n", " plus(n, k)",
        ):
            self.check_wrong(text)

    def test_wrong_numbers_of_sides(self):
        for word, arity in ARITIES.items():
            for many in range(6):
                text = f"{word}({', '.join(['n'] * many)})"
                if many == arity:
                    self.assertEqual(str(read_expression(text)), text)
                else:
                    self.check_wrong(text)

    def test_one_sign_changed_at_any_place(self):
        texts = ["n", "0", "12", "not(n)", "plus(n, 1)", "choose(n, 10, x2)", "below(not(n), plus(1, k))", "either(a1, times(b, 0))"]
        read = 0
        for text in texts:
            for other in changed(text):
                if is_text(other):
                    made = read_expression(other)
                    self.assertIsInstance(made, Expression)
                    self.assertEqual(str(made), other)
                    read += 1
                else:
                    self.check_wrong(other)
        self.assertGreater(read, 100)

    def test_parts_and_depth(self):
        for made in (of_parts(40), of_depth(6), Choose(of_parts(20), N, of_parts(18))):
            self.check(str(made), made)
        self.check_wrong(f"plus({of_parts(20)}, {of_parts(20)})")
        self.check_wrong(f"not({Choose(of_parts(20), N, of_parts(18))})")
        self.check_wrong(f"not({of_depth(6)})")
        self.check_wrong(f"plus({of_depth(6)}, {of_parts(40)})")
        self.check_wrong(f"plus({of_parts(40)}, {of_depth(6)})")

    def test_deep_and_long_texts(self):
        for depth in range(1, 41):
            text = "not(" * (depth - 1) + "n" + ")" * (depth - 1)
            if depth <= 6:
                self.check(text, of_depth(depth))
            else:
                self.check_wrong(text)
                self.check_wrong("not(" * (depth - 1))
        for text in ("plus(" * 40, "(" * 40, ")" * 40, ", " * 9000, "plus(" + "n, " * 6000 + "n)", "n" + ")" * 5000):
            self.check_wrong(text)

    def test_values_that_are_no_strings(self):
        for value in values_other_than(lambda v: isinstance(v, str)) + [b"n", ["n"], N]:
            self.check_wrong(value)
            check_error(self, errors.InvalidText, {"value": value}, read_expression, text=value)

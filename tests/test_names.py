import string
import unittest

from reentry.names import is_integer, is_name, is_size
from tests.values import SIXTY_DIGITS, any_values

NO_STRINGS = [
    None, True, False, 0, 7, -1, SIXTY_DIGITS, b"a", [], ["a"], {}, {"a": 1}, {"a"}, (), ("a",),
    ("a", ("b",)), str, len, object(),
]


class TestNames(unittest.TestCase):
    def check(self, function, value, expected):
        with self.subTest(function=function.__name__, value=str(value)[:80]):
            self.assertIs(function(value), expected)
            self.assertIs(function(value=value), expected)

    def test_names(self):
        for value in ("a", "z", "a1", "n0", "abcdefgh", "a1234567", "plus", "zzzzzzzz"):
            self.check(is_name, value, True)

    def test_lengths_of_names(self):
        for length in range(12):
            self.check(is_name, "a" * length, 1 <= length <= 8)
        self.check(is_name, "a" * 20000, False)

    def test_strings_that_are_no_names(self):
        wrong = ["A", "aB", "Ab", "1", "1a", "0abc", " a", "a ", "a b", "\na", "a\n", "a\nb", " ", "\n", "abcdefg\n"]
        for value in wrong:
            self.check(is_name, value, False)

    def test_each_sign_in_front_and_behind(self):
        for sign in string.printable[:95] + "\n":
            self.check(is_name, sign, sign in string.ascii_lowercase)
            self.check(is_name, sign + "a", sign in string.ascii_lowercase)
            self.check(is_name, "a" + sign, sign in string.ascii_lowercase + string.digits)
            self.check(is_name, "a" + sign + "b", sign in string.ascii_lowercase + string.digits)

    def test_other_values_are_no_names(self):
        for value in NO_STRINGS:
            self.check(is_name, value, False)

    def test_sizes(self):
        for value in range(-3, 50):
            self.check(is_size, value, 1 <= value <= 40)
        for value in (SIXTY_DIGITS, -SIXTY_DIGITS, True, False, None, "1", "40", "", b"1", [1], (1,), {1: 1}, int):
            self.check(is_size, value, False)

    def test_integers(self):
        for value in (0, 1, -1, 40, 41, 255, SIXTY_DIGITS, -SIXTY_DIGITS):
            self.check(is_integer, value, True)
        for value in (True, False, None, "0", "1", "", b"0", [], [0], (0,), {}, {0: 0}, int, len):
            self.check(is_integer, value, False)

    def test_nothing_is_raised_or_changed(self):
        before, values = repr(any_values()[:-6]), any_values()
        for function in (is_name, is_size, is_integer):
            for value in values:
                self.assertIn(function(value), (True, False))
        self.assertEqual(repr(values[:-6]), before)

"""Values of many kinds, and a helper for tests of errors."""

from reentry.expressions import Number, Variable
from reentry.rules import Rule
from reentry.statements import Fail

SIXTY_DIGITS = int("9" * 60)
NESTED = ((((((1, "a"), [True]), None), {"k": (2,)}), ()), -1)


class Stranger:
    """An object of no class of the program, which claims to be equal to everything."""

    def __eq__(self, other):
        return True

    def __hash__(self):
        return 0


def any_values():
    """Values of many kinds, made anew by each call."""
    return [
        None, True, False, 0, 1, -1, 40, 41, 1000, SIXTY_DIGITS, -SIXTY_DIGITS,
        "", "a", "A", "a b", "abcdefghi", "1", "a\n", " a", "x" * 20000, b"a",
        [], ["a"], [1, 2], (), ("a",), (1, 2), ("a", 1), {}, {"a": 1}, {1, 2}, NESTED,
        int, len, Stranger(), object(),
        Number(1), Variable("a"), Fail(), Rule((), ()),
    ]


def values_other_than(fits):
    """The values of many kinds for which the function is not true."""
    return [value for value in any_values() if not fits(value)]


def error_of(test, action, /, *args, **named):
    """The class and the fields of the error that a call raises."""
    try:
        given = action(*args, **named)
    except Exception as error:
        return type(error), vars(error)
    test.fail(f"no error but {given!r:.200}")


def check_error(test, kind, fields, action, /, *args, **named):
    """Check the class of the error of a call, and that its fields are these very values."""
    found, seen = error_of(test, action, *args, **named)
    test.assertIs(found, kind, (found, seen))
    test.assertEqual(list(seen), list(fields))
    for name in fields:
        value = fields[name]
        if isinstance(value, (int, str)) or value is None:
            test.assertIs(type(seen[name]), type(value))
            test.assertEqual(seen[name], value)
        else:
            test.assertIs(seen[name], value)

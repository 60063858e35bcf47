"""Expressions: exact integers that depend on the values of names, and the reading of their texts."""

from reentry.errors import InvalidName, InvalidNumber, InvalidText, InvalidValue, NotAnExpression, TooMany
from reentry.limits import MAX_DEPTH, MAX_NUMBER, MAX_PARTS
from reentry.names import SIGNS, is_integer, is_name
from reentry.numerals import read_number

ARITIES = {
    "plus": 2,
    "minus": 2,
    "times": 2,
    "equal": 2,
    "below": 2,
    "not": 1,
    "both": 2,
    "either": 2,
    "choose": 3,
}


class Expression:
    """The base class of the eleven kinds. What the value of a kind is, its method `worth` says."""

    def __init__(self, head, inside):
        check_inside(inside)
        self.text = written(head, inside)
        self.names = tuple(sorted({name for part in inside for name in part.names}))
        self.parts = parts_with(inside)
        self.depth = depth_with(inside)

    def evaluate(self, values):
        """The value, with an integer for each name in the dict `values`."""
        if not isinstance(values, dict):
            raise InvalidValue(values)
        for name in self.names:
            if name not in values or not is_integer(values[name]):
                raise InvalidValue(values)
        return self.worth(values)

    def __add__(self, other):
        return Plus(self, other)

    def __sub__(self, other):
        return Minus(self, other)

    def __mul__(self, other):
        return Times(self, other)

    def __and__(self, other):
        return Both(self, other)

    def __or__(self, other):
        return Either(self, other)

    def __invert__(self):
        return Not(self)

    def __eq__(self, other):
        return isinstance(other, Expression) and self.text == other.text

    def __str__(self):
        return str(self.text)

    def __repr__(self):
        return f"Expression({self.text})"


class Number(Expression):
    """A number that is written out."""

    WORD = "number"

    def __init__(self, number):
        if not is_integer(number) or not 0 <= number <= MAX_NUMBER:
            raise InvalidNumber(number)
        Expression.__init__(self, str(number), ())
        self.number = number

    def worth(self, values):
        """The value; the names have the given values."""
        return self.number


class Variable(Expression):
    """A name; its value is that of the name."""

    WORD = "variable"

    def __init__(self, name):
        if not is_name(name):
            raise InvalidName(name)
        Expression.__init__(self, name, ())
        self.names = (name,)
        self.name = name

    def worth(self, values):
        """The value; the names have the given values."""
        return values[self.name]


class Plus(Expression):
    """The sum of two values."""

    WORD = "plus"

    def __init__(self, first, second):
        Expression.__init__(self, Plus.WORD, (first, second))
        self.first = first
        self.second = second

    def worth(self, values):
        """The value; the names have the given values."""
        return self.first.worth(values) + self.second.worth(values)


class Minus(Expression):
    """The first value less the second one."""

    WORD = "minus"

    def __init__(self, first, second):
        Expression.__init__(self, Minus.WORD, (first, second))
        self.first = first
        self.second = second

    def worth(self, values):
        """The value; the names have the given values."""
        return self.first.worth(values) - self.second.worth(values)


class Times(Expression):
    """The product of two values."""

    WORD = "times"

    def __init__(self, first, second):
        Expression.__init__(self, Times.WORD, (first, second))
        self.first = first
        self.second = second

    def worth(self, values):
        """The value; the names have the given values."""
        return self.first.worth(values) * self.second.worth(values)


class Equal(Expression):
    """1 if two values are equal, otherwise 0."""

    WORD = "equal"

    def __init__(self, first, second):
        Expression.__init__(self, Equal.WORD, (first, second))
        self.first = first
        self.second = second

    def worth(self, values):
        """The value; the names have the given values."""
        return 1 if self.first.worth(values) == self.second.worth(values) else 0


class Below(Expression):
    """1 if the first value is less than the second one, otherwise 0."""

    WORD = "below"

    def __init__(self, first, second):
        Expression.__init__(self, Below.WORD, (first, second))
        self.first = first
        self.second = second

    def worth(self, values):
        """The value; the names have the given values."""
        return 1 if self.first.worth(values) < self.second.worth(values) else 0


class Both(Expression):
    """1 if neither value is 0, otherwise 0."""

    WORD = "both"

    def __init__(self, first, second):
        Expression.__init__(self, Both.WORD, (first, second))
        self.first = first
        self.second = second

    def worth(self, values):
        """The value; the names have the given values."""
        return 1 if self.first.worth(values) != 0 and self.second.worth(values) != 0 else 0


class Either(Expression):
    """0 if both values are 0, otherwise 1."""

    WORD = "either"

    def __init__(self, first, second):
        Expression.__init__(self, Either.WORD, (first, second))
        self.first = first
        self.second = second

    def worth(self, values):
        """The value; the names have the given values."""
        return 1 if self.first.worth(values) != 0 or self.second.worth(values) != 0 else 0


class Not(Expression):
    """1 if a value is 0, otherwise 0."""

    WORD = "not"

    def __init__(self, first):
        Expression.__init__(self, Not.WORD, (first,))
        self.first = first

    def worth(self, values):
        """The value; the names have the given values."""
        return 1 if self.first.worth(values) == 0 else 0


class Choose(Expression):
    """The second value if the first one, the test, is not 0, otherwise the third one."""

    WORD = "choose"

    def __init__(self, test, first, second):
        Expression.__init__(self, Choose.WORD, (test, first, second))
        self.test = test
        self.first = first
        self.second = second

    def worth(self, values):
        """The value; the names have the given values."""
        chosen = self.first if self.test.worth(values) != 0 else self.second
        return chosen.worth(values)


def check_inside(inside):
    """Raise the first error that applies to an expression with these expressions inside."""
    for part in inside:
        if not isinstance(part, Expression):
            raise NotAnExpression(part)
    if parts_with(inside) > MAX_PARTS:
        raise TooMany(MAX_PARTS)
    if depth_with(inside) > MAX_DEPTH:
        raise TooMany(MAX_DEPTH)


def parts_with(inside):
    """The number of parts of an expression with these expressions inside."""
    return 1 + sum([part.parts for part in inside])


def depth_with(inside):
    """The depth of an expression with these expressions inside."""
    return 1 + max([part.depth for part in inside], default=0)


def written(head, inside):
    """The text that begins with `head` and goes on with these expressions in round brackets, if there are any."""
    if not inside:
        return head
    texts = ", ".join([part.text for part in inside])
    return f"{head}({texts})"


def check_expression(value):
    """Raise the error for a value that is not an expression."""
    if not isinstance(value, Expression):
        raise NotAnExpression(value)


def read_expression(text):
    """The expression with this text."""
    if not isinstance(text, str):
        raise InvalidText(text)
    try:
        expression, end = read_at(text, 0, 1)
    except TooMany:
        raise InvalidText(text) from None
    if end != len(text):
        raise InvalidText(text)
    return expression


def read_at(text, start, depth):
    """The expression whose text begins at `start`, so deep inside others, and the place behind it."""
    end = start
    while end < len(text) and text[end] in SIGNS:
        end += 1
    word = text[start:end]
    if text[end:end + 1] != "(":
        return read_leaf(text, word), end
    # Nothing is read inside an expression that is too deep already: the depth of the calls stays small.
    if word not in ARITIES or depth >= MAX_DEPTH:
        raise InvalidText(text)
    inside, end = read_inside(text, end, depth + 1, ARITIES[word])
    return combined(word, inside), end


def read_inside(text, start, depth, many):
    """So many expressions in the round brackets that begin at `start`, and the place behind these."""
    inside = []
    end = start
    before = "("
    for _ in range(many):
        expression, end = read_at(text, behind(text, end, before), depth)
        inside.append(expression)
        before = ", "
    return inside, behind(text, end, ")")


def behind(text, start, sign):
    """The place behind the sign that must stand at `start`."""
    end = start + len(sign)
    if text[start:end] != sign:
        raise InvalidText(text)
    return end


def read_leaf(text, word):
    """The number or variable that is written as this word of the text."""
    number = read_number(word)
    if number is not None:
        return Number(number)
    if not is_name(word):
        raise InvalidText(text)
    return Variable(word)


def combined(word, inside):
    """The expression of the kind with this word, with these expressions inside."""
    if word == "not":
        return Not(inside[0])
    if word == "choose":
        return Choose(inside[0], inside[1], inside[2])
    first, second = inside
    if word == "plus":
        return Plus(first, second)
    if word == "minus":
        return Minus(first, second)
    if word == "times":
        return Times(first, second)
    if word == "equal":
        return Equal(first, second)
    if word == "below":
        return Below(first, second)
    if word == "both":
        return Both(first, second)
    return Either(first, second)

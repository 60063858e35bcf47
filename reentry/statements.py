"""Statements, of which the bodies of entries consist."""

from reentry.errors import InvalidBody, InvalidName, TooMany
from reentry.expressions import check_expression
from reentry.limits import MAX_LEVEL, MAX_STATEMENTS
from reentry.names import is_name


class Statement:
    """The base class of the seven kinds: a first line, the names in its expression, and bodies."""

    def __init__(self, line, names=(), bodies=()):
        self.amount = 1 + amount_of(bodies)
        self.height = 1 + height_of(bodies)
        if self.amount > MAX_STATEMENTS:
            raise TooMany(MAX_STATEMENTS)
        if self.height > MAX_LEVEL:
            raise TooMany(MAX_LEVEL)
        self.names = names
        self.bodies = bodies
        self.lines = (line,) + lines_inside(bodies)

    def __eq__(self, other):
        return isinstance(other, Statement) and self.lines == other.lines

    def __str__(self):
        return "\n".join(self.lines)

    def __repr__(self):
        return f"Statement({self.lines[0]})"


class Assign(Statement):
    """A name gets a value."""

    def __init__(self, name, expression):
        check_name(name)
        check_expression(expression)
        Statement.__init__(self, f"assign {name} {expression}", expression.names)
        self.name = name
        self.expression = expression


class If(Statement):
    """One of two bodies is run."""

    def __init__(self, test, body, otherwise=()):
        check_expression(test)
        check_body(body)
        check_body(otherwise)
        Statement.__init__(self, f"if {test}", test.names, (body, otherwise))
        self.test = test
        self.body = body
        self.otherwise = otherwise


class While(Statement):
    """A body is run as long as a value is not 0."""

    def __init__(self, test, body):
        check_expression(test)
        check_body(body)
        Statement.__init__(self, f"while {test}", test.names, (body,))
        self.test = test
        self.body = body


class Call(Statement):
    """The surroundings are asked; `into` is the name that gets the answer, or None."""

    def __init__(self, name, expression, into=None):
        check_name(name)
        check_expression(expression)
        line = f"call {name} {expression}"
        if into is not None:
            check_name(into)
            line = f"{line} into {into}"
        Statement.__init__(self, line, expression.names)
        self.name = name
        self.expression = expression
        self.into = into


class Return(Statement):
    """The entry ends with a value."""

    def __init__(self, expression):
        check_expression(expression)
        Statement.__init__(self, f"return {expression}", expression.names)
        self.expression = expression


class Fail(Statement):
    """A statement that fails."""

    def __init__(self):
        Statement.__init__(self, "fail")


class Attempt(Statement):
    """A body, and another one that is run if a statement in the first one fails."""

    def __init__(self, body, handler=()):
        check_body(body)
        check_body(handler)
        Statement.__init__(self, "attempt", (), (body, handler))
        self.body = body
        self.handler = handler


def check_name(value):
    """Raise the error for a value that is not a name."""
    if not is_name(value):
        raise InvalidName(value)


def check_body(body):
    """Raise the error for a value that is not a tuple of statements."""
    if not isinstance(body, tuple):
        raise InvalidBody(None)
    for index, statement in enumerate(body):
        if not isinstance(statement, Statement):
            raise InvalidBody(index)


def amount_of(bodies):
    """The number of statements in these bodies, those inside others counted, too."""
    return sum([statement.amount for body in bodies for statement in body])


def height_of(bodies):
    """The greatest level of a statement in these bodies, if those of the bodies have level 1; 0 without any."""
    return max([statement.height for body in bodies for statement in body], default=0)


def lines_inside(bodies):
    """The lines behind the first one of a statement with these bodies."""
    lines = []
    for number, body in enumerate(bodies):
        if number > 0 and body:
            lines.append("else")
        lines += indented(body)
    return tuple(lines)


def indented(body):
    """The lines of a body, each with two spaces in front."""
    return [f"  {line}" for statement in body for line in statement.lines]

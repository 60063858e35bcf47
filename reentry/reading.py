"""The reading of the texts of modules.

What is read need not be written just so: the reader of a module compares its text with what was read.
"""

from reentry.errors import InvalidText
from reentry.expressions import read_expression
from reentry.limits import MAX_LEVEL
from reentry.numerals import read_number
from reentry.statements import Assign, Attempt, Call, Fail, If, Return, While


class Reader:
    """Goes through the lines of a text; `row` is the number of the next one."""

    def __init__(self, text):
        self.text = text
        self.lines = text.split("\n")
        self.row = 0

    def is_next(self, start):
        """Whether there is a next line and it begins so."""
        return self.row < len(self.lines) and self.lines[self.row].startswith(start)

    def read_words(self, many):
        """So many words, of which the next line consists, without the first one."""
        words = self.lines[self.row].strip(" ").split(" ")
        if len(words) != many:
            raise InvalidText(self.text)
        self.row += 1
        return words[1:]

    def read_triples(self, start):
        """The triples of a name and two numbers in the next lines that begin so."""
        triples = []
        while self.is_next(start):
            name, first, second = self.read_words(4)
            triples.append((name, read_number(first), read_number(second)))
        return tuple(triples)

    def read_slots(self):
        """The slots in the next lines."""
        slots = []
        while self.is_next("  slot "):
            name, size = self.read_words(3)
            slots.append((name, read_number(size)))
        return tuple(slots)

    def read_head(self):
        """The name, arguments, results and parameter of an entry."""
        if not self.is_next("entry "):
            raise InvalidText(self.text)
        name, arguments, results, parameter = self.read_words(5)
        return name, read_number(arguments), read_number(results), parameter

    def read_body(self, level):
        """The statements of this level in the next lines."""
        if level > MAX_LEVEL + 1:
            raise InvalidText(self.text)
        spaces = "  " * level
        statements = []
        while self.is_next(spaces) and self.lines[self.row] != f"{spaces}else":
            statements.append(self.read_statement(level))
        return tuple(statements)

    def read_statement(self, level):
        """The statement of this level that begins in the next line."""
        word, _, rest = self.lines[self.row][2 * level:].partition(" ")
        self.row += 1
        if word == "if":
            test = read_expression(rest)
            body = self.read_body(level + 1)
            return If(test, body, self.read_second(level))
        if word == "while":
            return While(read_expression(rest), self.read_body(level + 1))
        if word == "attempt":
            body = self.read_body(level + 1)
            return Attempt(body, self.read_second(level))
        if word == "assign":
            name, _, expression = rest.partition(" ")
            return Assign(name, read_expression(expression))
        if word == "call":
            return read_call(rest)
        if word == "return":
            return Return(read_expression(rest))
        if word == "fail":
            return Fail()
        raise InvalidText(self.text)

    def read_second(self, level):
        """The second body of a statement of this level, which may be left out."""
        spaces = "  " * level
        if self.row == len(self.lines) or self.lines[self.row] != f"{spaces}else":
            return ()
        self.row += 1
        return self.read_body(level + 1)

    def is_done(self):
        """Whether all lines have been read."""
        return self.row == len(self.lines)


def read_call(rest):
    """The call statement with this text behind its first word."""
    name, _, tail = rest.partition(" ")
    # An expression has spaces behind commas only, so the last such word is not one of its names.
    expression, sign, into = tail.rpartition(" into ")
    if sign == "":
        return Call(name, read_expression(tail))
    return Call(name, read_expression(expression), into)

"""Modules without statements that they do not need."""

from reentry.errors import InvalidCount
from reentry.likeness import alike
from reentry.modules import Module, check_module
from reentry.names import is_integer
from reentry.tables import table_for


def without(module, line):
    """The module without the statement that begins in this line, and without those inside it."""
    check_module(module)
    if not is_integer(line) or line not in first_lines(module):
        raise InvalidCount(line)
    return left_of(module, line)


def shorter(module, during=None):
    """The module without all statements that can be left out one after the other, in rounds."""
    check_module(module)
    table = table_for(module, during)
    # Nothing is learned by this, but that the tables are not too large.
    alike(module, module, table)
    made = module
    before = None
    while before is None or made.amount < before.amount:
        before = made
        made = behind_round(module, made, table)
    return made


def behind_round(module, made, table):
    """What a round leaves of `made`, each time compared with the module that was given."""
    number = 0
    lines = first_lines(made)
    while number < len(lines):
        tried = left_of(made, lines[number])
        if alike(module, tried, table):
            # The first statement behind the one that is left out has its number now.
            made = tried
            lines = first_lines(made)
        else:
            number += 1
    return made


def first_lines(module):
    """The lines in which statements begin, ascending."""
    return [number for number, line in enumerate(module.lines) if is_first_line(line)]


def is_first_line(line):
    """Whether this line of a module is one in which a statement begins."""
    if not line.startswith("  ") or line.strip(" ") == "else":
        return False
    return not line.startswith("  slot ")


def left_of(module, line):
    """The module without the statement that begins in this line."""
    lines = list(module.lines)
    spaces = spaces_of(lines, line)
    end = line + 1
    while spaces_of(lines, end) > spaces or is_else(lines, end, spaces):
        end += 1
    # An `else` goes, too, when nothing stands behind it any more.
    if is_else(lines, line - 1, spaces - 2) and spaces_of(lines, end) < spaces:
        line -= 1
    return Module.read("\n".join(lines[:line] + lines[end:]))


def spaces_of(lines, number):
    """How many spaces a line begins with; -1 behind the last line."""
    if number == len(lines):
        return -1
    return len(lines[number]) - len(lines[number].lstrip(" "))


def is_else(lines, number, spaces):
    """Whether this line is an `else` behind so many spaces."""
    return number < len(lines) and lines[number] == " " * spaces + "else"

"""What is meant by texts and pairs that anyone may have written; everywhere None if nothing is."""

from reentry.errors import InvalidText
from reentry.expressions import read_expression
from reentry.modules import Module
from reentry.tables import Table, is_pair_of


def module_in(text):
    """The module with any value as its text."""
    try:
        return Module.read(text)
    except InvalidText:
        return None


def condition_in(module, text):
    """The expression over variables of a module with any value as its text."""
    try:
        condition = read_expression(text)
    except InvalidText:
        return None
    names = [variable[0] for variable in module.variables]
    return condition if all([name in names for name in condition.names]) else None


def table_in(face, pairs):
    """The table of a face that any value makes which is a tuple of different pairs."""
    if not isinstance(pairs, tuple):
        return None
    taken = {}
    for pair in pairs:
        if not is_pair_of(face, pair) or pair in taken:
            return None
        taken[pair] = True
    return Table(*pairs)

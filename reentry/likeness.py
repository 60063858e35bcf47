"""Whether two machines are alike, and plays that part them."""

from reentry.beside import PARTED, Beside
from reentry.routes import Routes
from reentry.rows import Rows
from reentry.tables import table_for


def alike(one, other, during=None):
    """Whether all plays of the one machine are plays of the other one, with the same responses."""
    return not can_part(rows_of_both(one, other, during))


def parting(one, other, during=None):
    """A shortest play whose last responses alone differ; None if the machines are alike."""
    return parting_in(rows_of_both(one, other, during))


def parting_in(rows):
    """What `parting` returns, from the tables of both machines."""
    if not can_part(rows):
        return None
    return Routes(rows).play_to_step(lambda turn, step: step[1] == PARTED)


def rows_of_both(one, other, during):
    """The tables of two machines beside each other."""
    both = Beside(one, other)
    return Rows(both, table_for(one, during))


def can_part(rows):
    """Whether the machines of these tables give responses that differ."""
    return PARTED in rows.steps.responses

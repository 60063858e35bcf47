"""Certificates for what the decisions tell."""

from reentry.always import breach_in, check_condition
from reentry.depth import levels_of
from reentry.likeness import parting_in, rows_of_both
from reentry.modules import check_module
from reentry.rings import endless_plays
from reentry.rows import Rows
from reentry.tables import table_for


def certify_alike(one, other, during=None):
    """A claim that two modules are alike, or that they are not, and a certificate for it."""
    check_module(one)
    check_module(other)
    rows = rows_of_both(one, other, during)
    what = (str(one), str(other), table_for(one, during).pairs)
    play = parting_in(rows)
    if play is None:
        return ("alike",) + what, written_table(rows, double_call, double_place)
    return ("not alike",) + what, play.moves()


def certify_always(module, condition, during=None):
    """A claim that a condition holds always, or that it does not, and a certificate for it."""
    check_module(module)
    check_condition(module, condition)
    table = table_for(module, during)
    rows = Rows(module, table)
    what = (str(module), str(condition), table.pairs)
    play = breach_in(rows, module, condition)
    if play is None:
        return ("always",) + what, written_table(rows, single_call, single_place)
    return ("not always",) + what, play.moves()


def certify_depth(module, during=None):
    """A claim that the depth is at most what it is, or that there is none, and a certificate for it."""
    check_module(module)
    table = table_for(module, during)
    rows = Rows(module, table)
    what = (str(module), table.pairs)
    levels = levels_of(rows)
    if levels is None:
        return ("endless",) + what, endless_plays(rows)
    ranks = [levels[rows.calls[call]] for call, _, _ in place_rows(rows)]
    claim = ("depth",) + what + (max(levels.values(), default=0),)
    return claim, (written_table(rows, single_call, single_place), tuple(ranks))


def written_table(rows, write_call, write_place):
    """The table of the document's point 26, its calls and places written by these functions."""
    stores = rows.steps.stores.things
    frames = rows.steps.waits.things
    calls = [
        write_call(stores[store], entry, value)
        for store, entry in rows.hops
        for value in range(rows.steps.arguments[entry])
    ]
    grounds = [stores[ground] for ground in rows.grounds]
    places = [(calls[call], write_place(frames[frame], stores[store])) for call, frame, store in place_rows(rows)]
    ends = [(calls[call], stores[store]) for call, frame, store in rows.offers.taken if frame is None]
    return tuple(grounds), tuple(places), tuple(ends)


def place_rows(rows):
    """The rows of places."""
    return [row for row in rows.offers.taken if row[1] is not None]


def single_call(store, entry, value):
    """A call of a single table."""
    return store, entry, value


def single_place(frame, store):
    """A place of a single table."""
    return frame, store


def double_call(stores, entry, value):
    """A call of a pair table."""
    return stores[0], stores[1], entry, value


def double_place(frames, stores):
    """A place of a pair table."""
    return frames[0], stores[0], frames[1], stores[1]

"""Which calls back are harmless: tables under which two machines are alike, and tables under which they are not."""

from reentry.beside import Beside
from reentry.errors import InvalidPairs
from reentry.likeness import can_part
from reentry.limits import MAX_OPEN
from reentry.rows import Rows
from reentry.tables import Table, is_pair_of


def greatest_tables(one, other, pairs):
    """The tables made of these pairs under which the machines are alike, without those that are parts of others."""
    good, _ = good_and_bad(one, other, pairs)
    return in_order([table for table in good if not any([is_less(table, other_one) for other_one in good])])


def least_tables(one, other, pairs):
    """The tables made of these pairs under which the machines are not alike, without those that have such parts."""
    _, bad = good_and_bad(one, other, pairs)
    return in_order(bad)


def good_and_bad(one, other, pairs):
    """Tables under which the machines are alike, all greatest ones among them, and the least ones of the others."""
    both = Beside(one, other)
    check_asked(both.face, pairs)
    whole = Table(*pairs)
    # The whole table comes first, since its tables alone can be too large: those of its parts are parts of them.
    if is_good(both, whole):
        return [whole], []
    good = []
    bad = []
    for part in parts_of(pairs):
        table = Table(*part)
        if not any([less.within(table) for less in bad]):
            if is_good(both, table):
                good.append(table)
            else:
                bad.append(table)
    return good, bad


def is_good(both, table):
    """Whether two machines beside each other are alike under a table."""
    return not can_part(Rows(both, table))


def parts_of(pairs):
    """All parts of a tuple, each one behind its own parts."""
    parts = [()]
    for pair in pairs:
        parts = parts + [part + (pair,) for part in parts]
    return parts


def is_less(table, other):
    """Whether a table is a part of another one, other than itself."""
    return len(table) < len(other) and table.within(other)


def in_order(tables):
    """A tuple of tables, ascending by their pairs."""
    return tuple(sorted(tables, key=lambda table: table.pairs))


def check_asked(face, pairs):
    """Raise the error for a value that is not a tuple of a few different pairs of this face."""
    if not isinstance(pairs, tuple) or len(pairs) > MAX_OPEN:
        raise InvalidPairs(None)
    taken = {}
    for index, pair in enumerate(pairs):
        if not is_pair_of(face, pair) or pair in taken:
            raise InvalidPairs(index)
        taken[pair] = True

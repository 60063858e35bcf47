"""Tables of calls back."""

from reentry.errors import InvalidPairs, NotATable, UnknownPair
from reentry.machines import check_machine
from reentry.names import is_name


class Table:
    """A table of calls back: pairs (callout, entry)."""

    def __init__(self, *pairs):
        check_pairs(pairs)
        self.pairs = tuple(sorted(pairs))
        self.known = {pair: True for pair in pairs}

    @staticmethod
    def full(machine):
        """The table of all pairs of a callout and an entry of the machine."""
        check_machine(machine)
        face = machine.face
        pairs = [(callout[0], entry[0]) for callout in face.callouts for entry in face.entries]
        return Table(*pairs)

    def allows(self, callout, entry):
        """Whether any two values form a pair of the table."""
        return (callout, entry) in self

    def within(self, other):
        """Whether all pairs are pairs of the other table."""
        check_table(other)
        return all([pair in other.known for pair in self.pairs])

    def __or__(self, other):
        check_table(other)
        pairs = list(self.pairs) + [pair for pair in other.pairs if pair not in self.known]
        return Table(*pairs)

    def __and__(self, other):
        check_table(other)
        pairs = [pair for pair in self.pairs if pair in other.known]
        return Table(*pairs)

    def __sub__(self, other):
        check_table(other)
        pairs = [pair for pair in self.pairs if pair not in other.known]
        return Table(*pairs)

    def __contains__(self, value):
        return is_pair(value) and value in self.known

    def __len__(self):
        return len(self.pairs)

    def __iter__(self):
        return iter(self.pairs)

    def __eq__(self, other):
        return isinstance(other, Table) and self.pairs == other.pairs

    def __repr__(self):
        return f"Table({len(self.pairs)} pairs)"


def is_pair(value):
    """Whether any value is a pair of two names."""
    return isinstance(value, tuple) and len(value) == 2 and is_name(value[0]) and is_name(value[1])


def is_pair_of(face, value):
    """Whether any value is a pair of a callout and an entry of a face."""
    if not isinstance(value, tuple) or len(value) != 2:
        return False
    return face.callout_named(value[0]) is not None and face.entry_named(value[1]) is not None


def check_pairs(pairs):
    """Raise the error for a tuple that is not one of different pairs of names."""
    taken = {}
    for index, pair in enumerate(pairs):
        if not is_pair(pair) or pair in taken:
            raise InvalidPairs(index)
        taken[pair] = True


def check_table(value):
    """Raise the error for a value that is not a table of calls back."""
    if not isinstance(value, Table):
        raise NotATable(value)


def table_for(machine, during):
    """The table that `during` stands for beside this machine; an error if it stands for none."""
    if during is None:
        return Table.full(machine)
    check_table(during)
    for pair in during.pairs:
        if not is_pair_of(machine.face, pair):
            raise UnknownPair(pair)
    return during

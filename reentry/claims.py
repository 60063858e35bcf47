"""Tables that are claimed to be closed: whether they have the form of the document's point 26, and are closed.

Everything here may have been made by anyone. What is read is kept in the numbers of reentry/steps.py: a call is a
triple (store, entry, value), a place a triple (call, frame, store), an end a pair (call, store).
"""

from reentry.beside import PARTED, Beside
from reentry.machines import HANG
from reentry.names import is_integer, is_value
from reentry.steps import Steps


class Single:
    """How the rows of a single table are written, which is about one module."""

    def __init__(self, module):
        self.system = module

    def store_from(self, value):
        """The store that any value is; None if it is none."""
        return value if is_store(self.system, value) else None

    def call_from(self, value):
        """The call, a triple of a store, an entry and its value, that any value is; None if it is none."""
        if not is_tuple(value, 3) or not is_store(self.system, value[0]):
            return None
        return value if is_argument(self.system.face, value[1], value[2]) else None

    def place_from(self, value):
        """The place, a triple of a frame, a store and the callout, that any value is; None if it is none."""
        if not is_tuple(value, 2) or not is_place(self.system, value[0], value[1]):
            return None
        return value[0], value[1], self.system.callout_of(value[0])


class Double:
    """How the rows of a pair table are written, which is about two modules with equal faces."""

    def __init__(self, one, other):
        self.system = Beside(one, other)
        self.one = one
        self.other = other

    def store_from(self, value):
        """The pair of stores that any value is; None if it is none."""
        if not is_tuple(value, 2) or not is_store(self.one, value[0]) or not is_store(self.other, value[1]):
            return None
        return value

    def call_from(self, value):
        """The call, a triple of a pair of stores, an entry and its value, that any value is; None if it is none."""
        if not is_tuple(value, 4) or not is_argument(self.one.face, value[2], value[3]):
            return None
        store = self.store_from(value[:2])
        return None if store is None else (store, value[2], value[3])

    def place_from(self, value):
        """The place, a triple of pairs of frames and stores and the callout, that any value is; None if it is none."""
        if not is_tuple(value, 4):
            return None
        if not is_place(self.one, value[0], value[1]) or not is_place(self.other, value[2], value[3]):
            return None
        callout = self.one.callout_of(value[0])
        if callout != self.other.callout_of(value[2]):
            return None
        return (value[0], value[2]), (value[1], value[3]), callout


class Claimed:
    """A table that is claimed to be closed, as far as it has been read.

    `places` has its places in their sequence, `placed` the same as the keys of a dict; `behind` has for each call
    the stores of its ends. `covered` has for each door whether its calls are covered, if this is known.
    """

    def __init__(self, steps):
        self.steps = steps
        self.grounds = {}
        self.places = []
        self.placed = {}
        self.ends = {}
        self.behind = {}
        self.covered = {}

    def read_ground(self, form, value):
        """Take any value as a ground; whether it is one."""
        store = form.store_from(value)
        if store is None:
            return False
        self.grounds[self.steps.stores.number_of(store)] = True
        return True

    def read_place(self, form, value):
        """Take any value as a row with a place; whether it is one."""
        if not is_tuple(value, 2):
            return False
        call = form.call_from(value[0])
        place = form.place_from(value[1])
        if call is None or place is None:
            return False
        frame, store, callout = place
        row = (self.numbered(call), self.steps.frame_number(frame, callout), self.steps.stores.number_of(store))
        self.places.append(row)
        self.placed[row] = True
        return True

    def read_end(self, form, value):
        """Take any value as a row with an end; whether it is one."""
        if not is_tuple(value, 2):
            return False
        call = form.call_from(value[0])
        store = form.store_from(value[1])
        if call is None or store is None:
            return False
        number = self.steps.stores.number_of(store)
        row = (self.numbered(call), number)
        if row not in self.ends:
            self.ends[row] = True
            self.behind.setdefault(row[0], []).append(number)
        return True

    def numbered(self, call):
        """A call with the number of its store."""
        store, entry, value = call
        return self.steps.stores.number_of(store), entry, value

    def is_closed(self):
        """Whether the table is closed. The first store has the number 0."""
        if 0 not in self.grounds or not all([self.is_ground_closed(ground) for ground in self.grounds]):
            return False
        return all([self.is_place_closed(place) for place in self.placed])

    def is_ground_closed(self, ground):
        """Whether the table has all rows that a ground asks for."""
        doors = self.steps.doors_at((None, ground))
        if not all([self.is_covered(door) for door in doors]):
            return False
        return all([after in self.grounds for call in self.calls_from(doors) for after in self.behind.get(call, ())])

    def is_place_closed(self, place):
        """Whether the table has all rows that a place asks for."""
        call, frame, store = place
        doors = self.steps.doors_at((frame, store))
        if not all([self.is_covered(door) for door in doors]):
            return False
        if not all([self.has_row(call, answer) for answer in self.steps.answers_at((frame, store))]):
            return False
        calls = self.calls_from(doors)
        return all([(call, frame, after) in self.placed for back in calls for after in self.behind.get(back, ())])

    def is_covered(self, door):
        """Whether all calls of a door are covered."""
        if door not in self.covered:
            steps = self.steps.calls_from(door)
            self.covered[door] = all([self.has_row(call, step) for call, step in zip(self.calls_from([door]), steps)])
        return self.covered[door]

    def has_row(self, call, step):
        """Whether the table has the row that a step of a call asks for; no table has one for different responses."""
        _, response, store, frame = step
        if response == PARTED or response == HANG:
            return response == HANG
        return (call, store) in self.ends if frame is None else (call, frame, store) in self.placed

    def calls_from(self, doors):
        """The calls of doors, those of a door with ascending values."""
        return [(store, entry, value) for store, entry in doors for value in range(self.steps.arguments[entry])]


def claimed_in(form, table, value):
    """The table that any value is, for this table of calls back; None if it is none."""
    if not is_tuple(value, 3) or not all([isinstance(rows, tuple) for rows in value]):
        return None
    claimed = Claimed(Steps(form.system, table))
    grounds, places, ends = value
    read = [claimed.read_ground(form, row) for row in grounds]
    read += [claimed.read_place(form, row) for row in places]
    read += [claimed.read_end(form, row) for row in ends]
    return claimed if all(read) else None


def is_tuple(value, many):
    """Whether any value is a tuple of so many elements."""
    return isinstance(value, tuple) and len(value) == many


def is_store(module, value):
    """Whether any value is a store of a module."""
    return are_values(value, [variable[1] for variable in module.variables])


def is_place(module, frame, store):
    """Whether any two values are a frame of a module and a store of it."""
    if not is_store(module, store) or not is_tuple(frame, 2):
        return False
    line, own = frame
    if not is_integer(line) or line not in module.waits:
        return False
    program, _ = module.waits[line]
    return are_values(own, [program.sizes[name] for name in program.own])


def is_argument(face, entry, value):
    """Whether any two values are the name of an entry and one of its argument values."""
    triple = face.entry_named(entry)
    return triple is not None and is_value(value, triple[1])


def are_values(value, sizes):
    """Whether any value is a tuple of values of these sizes."""
    return is_tuple(value, len(sizes)) and all([is_value(part, size) for part, size in zip(value, sizes)])

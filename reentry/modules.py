"""Entries and modules."""

from reentry.errors import (
    InvalidCallouts,
    InvalidEntries,
    InvalidSize,
    InvalidSlots,
    InvalidText,
    InvalidVariables,
    LimitError,
    NotAModule,
    ReentryError,
    SharedName,
    TooLarge,
    TooMany,
    UnknownName,
)
from reentry.faces import Face
from reentry.limits import MAX_CALLOUTS, MAX_ENTRIES, MAX_PRODUCT, MAX_SLOTS, MAX_STATEMENTS, MAX_VARIABLES
from reentry.machines import Machine
from reentry.names import is_name, is_size, is_value
from reentry.programs import Program
from reentry.reading import Reader
from reentry.statements import Assign, Call, amount_of, check_body, check_name, indented


class Entry:
    """An entry of a module."""

    def __init__(self, name, arguments, results, parameter, *, slots=(), body=()):
        check_name(name)
        check_size(arguments)
        check_size(results)
        check_name(parameter)
        check_slots(parameter, slots)
        check_body(body)
        if amount_of((body,)) > MAX_STATEMENTS:
            raise TooMany(MAX_STATEMENTS)
        self.name = name
        self.arguments = arguments
        self.results = results
        self.parameter = parameter
        self.slots = slots
        self.body = body

    def __eq__(self, other):
        return (
            isinstance(other, Entry)
            and self.name == other.name
            and self.arguments == other.arguments
            and self.results == other.results
            and self.parameter == other.parameter
            and self.slots == other.slots
            and self.body == other.body
        )


class Module(Machine):
    """A module: entries, variables and callouts."""

    def __init__(self, *entries, variables=(), callouts=()):
        check_entries(entries)
        check_variables(variables)
        check_callouts(callouts)
        for entry in entries:
            check_names(entry, variables, callouts)
        amount = sum([amount_of((entry.body,)) for entry in entries])
        if amount > MAX_STATEMENTS:
            raise TooMany(MAX_STATEMENTS)
        check_products(entries, variables)
        face = Face([(entry.name, entry.arguments, entry.results) for entry in entries], callouts)
        Machine.__init__(self, face, variables, tuple([variable[2] for variable in variables]))
        self.entries = entries
        self.callouts = callouts
        self.amount = amount
        self.lines = module_lines(entries, variables, callouts)
        self.programs = programs_of(entries, variables, callouts)
        self.waits = waits_in(self.programs)

    @staticmethod
    def read(text):
        """The module with this text."""
        if not isinstance(text, str):
            raise InvalidText(text)
        try:
            module = read_module(text)
        except (ReentryError, LimitError):
            raise InvalidText(text) from None
        if str(module) != text:
            raise InvalidText(text)
        return module

    def entered(self, store, entry, value):
        return self.programs[entry].begin(store, value)

    def resumed(self, store, frame, answer):
        line, own = frame
        program, place = self.waits[line]
        return program.go_on(store, place, own, answer)

    def lines_behind(self, store, frame, move):
        """The lines of the statements that a move runs, as the keys of a dict; an answer is one to this frame."""
        if move[0] == "call":
            return self.programs[move[1]].lines_of_call(store, move[2])
        line, own = frame
        program, place = self.waits[line]
        return program.lines_of_answer(store, place, own, move[1])

    def shown_in(self, store):
        return store

    def begun_with(self, values):
        return values

    def entry_of(self, frame):
        program, _ = self.waits[frame[0]]
        return program.name

    def callout_of(self, frame):
        program, place = self.waits[frame[0]]
        return program.steps[place].name

    def __eq__(self, other):
        return isinstance(other, Module) and self.lines == other.lines

    def __str__(self):
        return "\n".join(self.lines)

    def __repr__(self):
        return f"Module({len(self.entries)} entries, {self.amount} statements)"


def check_module(value):
    """Raise the error for a value that is not a module."""
    if not isinstance(value, Module):
        raise NotAModule(value)


def check_size(value):
    """Raise the error for a value that is not a size."""
    if not is_size(value):
        raise InvalidSize(value)


def check_slots(parameter, slots):
    """Raise the error for a value that is not a tuple of slots beside this parameter."""
    if not isinstance(slots, tuple) or len(slots) > MAX_SLOTS:
        raise InvalidSlots(None)
    taken = {parameter: True}
    for index, slot in enumerate(slots):
        if not isinstance(slot, tuple) or len(slot) != 2:
            raise InvalidSlots(index)
        name, size = slot
        if not is_name(name) or not is_size(size) or name in taken:
            raise InvalidSlots(index)
        taken[name] = True


def check_entries(entries):
    """Raise the error for a tuple that is not one of entries with different names."""
    if not 1 <= len(entries) <= MAX_ENTRIES:
        raise InvalidEntries(None)
    taken = {}
    for index, entry in enumerate(entries):
        if not isinstance(entry, Entry) or entry.name in taken:
            raise InvalidEntries(index)
        taken[entry.name] = True


def check_variables(variables):
    """Raise the error for a value that is not a tuple of variables."""
    if not isinstance(variables, tuple) or len(variables) > MAX_VARIABLES:
        raise InvalidVariables(None)
    taken = {}
    for index, variable in enumerate(variables):
        if not is_sized_triple(variable) or not is_value(variable[2], variable[1]) or variable[0] in taken:
            raise InvalidVariables(index)
        taken[variable[0]] = True


def check_callouts(callouts):
    """Raise the error for a value that is not a tuple of callouts."""
    if not isinstance(callouts, tuple) or len(callouts) > MAX_CALLOUTS:
        raise InvalidCallouts(None)
    taken = {}
    for index, callout in enumerate(callouts):
        if not is_sized_triple(callout) or not is_size(callout[2]) or callout[0] in taken:
            raise InvalidCallouts(index)
        taken[callout[0]] = True


def is_sized_triple(value):
    """Whether any value is a triple that begins with a name and a size."""
    return isinstance(value, tuple) and len(value) == 3 and is_name(value[0]) and is_size(value[1])


def check_names(entry, variables, callouts):
    """Raise the error for a name of this entry that stands for two things, or for nothing."""
    shared = [variable[0] for variable in variables]
    own = [entry.parameter] + [slot[0] for slot in entry.slots]
    for name in own:
        if name in shared:
            raise SharedName(entry.name, name)
    unknown = unknown_names(entry.body, shared + own, [callout[0] for callout in callouts])
    if unknown:
        raise UnknownName(entry.name, unknown[0])


def unknown_names(body, names, callouts):
    """The names in a body that are not known, in the sequence of its lines and of the words in a line."""
    unknown = []
    for statement in body:
        if isinstance(statement, Call) and statement.name not in callouts:
            unknown.append(statement.name)
        if isinstance(statement, Assign) and statement.name not in names:
            unknown.append(statement.name)
        unknown += [name for name in statement.names if name not in names]
        if isinstance(statement, Call) and statement.into is not None and statement.into not in names:
            unknown.append(statement.into)
        for inside in statement.bodies:
            unknown += unknown_names(inside, names, callouts)
    return unknown


def check_products(entries, variables):
    """Raise the error for an entry whose names can have too many values together."""
    for entry in entries:
        many = entry.arguments
        for variable in variables:
            many *= variable[1]
        for slot in entry.slots:
            many *= slot[1]
        if many > MAX_PRODUCT:
            raise TooLarge(MAX_PRODUCT)


def module_lines(entries, variables, callouts):
    """The lines of a module."""
    lines = [f"variable {name} {size} {first}" for name, size, first in variables]
    lines += [f"callout {name} {arguments} {answers}" for name, arguments, answers in callouts]
    for entry in entries:
        lines += entry_lines(entry)
    return tuple(lines)


def entry_lines(entry):
    """The lines of an entry."""
    head = f"entry {entry.name} {entry.arguments} {entry.results} {entry.parameter}"
    slots = [f"  slot {name} {size}" for name, size in entry.slots]
    return [head] + slots + indented(entry.body)


def programs_of(entries, variables, callouts):
    """The programs of the entries of a module, by their names."""
    programs = {}
    line = len(variables) + len(callouts)
    for entry in entries:
        first = line + 1 + len(entry.slots)
        programs[entry.name] = Program(entry, variables, callouts, first)
        line += len(entry_lines(entry))
    return programs


def waits_in(programs):
    """For the line of each call statement its program and its place there."""
    waits = {}
    for program in programs.values():
        for place, step in enumerate(program.steps):
            if step.word == "call":
                waits[step.line] = (program, place)
    return waits


def read_module(text):
    """A module that was read from this text, in which words may be written in other ways."""
    reader = Reader(text)
    variables = reader.read_triples("variable ")
    callouts = reader.read_triples("callout ")
    entries = []
    while not reader.is_done():
        name, arguments, results, parameter = reader.read_head()
        slots = reader.read_slots()
        entries.append(Entry(name, arguments, results, parameter, slots=slots, body=reader.read_body(1)))
    return Module(*entries, variables=variables, callouts=callouts)

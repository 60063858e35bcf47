"""Machines: what answers calls. Modules are in reentry/modules.py."""

from reentry.errors import (
    InvalidName,
    InvalidStore,
    InvalidValue,
    InvalidWires,
    NotAMachine,
    NotARule,
    SharedName,
    TooMany,
)
from reentry.faces import Face
from reentry.limits import FAIL, MAX_CALLOUTS
from reentry.names import is_integer, is_value
from reentry.rules import Rule

HANG = ("hang",)


class Machine:
    """The base class of all machines.

    Each kind adds how it behaves: `entered` and `resumed` do what `enter` and `resume` do, without a
    look at what is passed; `shown_in` does this for `values_in`. `begun_with` is the first store, with
    other values of the variables; `entry_of` and `callout_of` are the names of the entry whose call
    waits with a frame, and of the callout that it waits for.
    """

    def __init__(self, face, variables, first):
        self.face = face
        self.variables = variables
        self.first = first

    def enter(self, store, entry, value):
        """The response to the call of an entry, the store behind it, and the frame that waits or None."""
        triple = self.face.entry_named(entry)
        if triple is None:
            raise InvalidName(entry)
        if not is_value(value, triple[1]):
            raise InvalidValue(value)
        return self.entered(store, entry, value)

    def resume(self, store, frame, answer):
        """The same for an answer to the callout with this frame."""
        answers = self.face.callout_named(self.callout_of(frame))[2]
        if not is_integer(answer) or not FAIL <= answer < answers:
            raise InvalidValue(answer)
        return self.resumed(store, frame, answer)

    def values_in(self, store):
        """The values of the variables in a store."""
        return self.shown_in(store)


class Wrapped(Machine):
    """The base class of machines around one other machine, whose face and frames they have."""

    def __init__(self, machine, variables, first):
        Machine.__init__(self, machine.face, variables, first)
        self.machine = machine

    def entry_of(self, frame):
        return self.machine.entry_of(frame)

    def callout_of(self, frame):
        return self.machine.callout_of(frame)


class Begun(Wrapped):
    """Another machine with another first store."""

    def __init__(self, machine, values):
        check_machine(machine)
        check_values(machine.variables, values)
        variables = [(old[0], old[1], value) for old, value in zip(machine.variables, values)]
        Wrapped.__init__(self, machine, tuple(variables), machine.begun_with(values))

    def entered(self, store, entry, value):
        return self.machine.entered(store, entry, value)

    def resumed(self, store, frame, answer):
        return self.machine.resumed(store, frame, answer)

    def shown_in(self, store):
        return self.machine.shown_in(store)

    def begun_with(self, values):
        return self.machine.begun_with(values)


class Guarded(Wrapped):
    """Another machine that takes no call while a callout of it is pending.

    A store is a pair of a store of the other machine and 1 if a callout of it is pending, otherwise 0.
    """

    def __init__(self, machine):
        check_machine(machine)
        Wrapped.__init__(self, machine, machine.variables, (machine.first, 0))

    def entered(self, store, entry, value):
        inner, pending = store
        if pending:
            return ("back", FAIL), store, None
        return guarded_step(store, self.machine.entered(inner, entry, value))

    def resumed(self, store, frame, answer):
        return guarded_step(store, self.machine.resumed(store[0], frame, answer))

    def shown_in(self, store):
        return self.machine.shown_in(store[0])

    def begun_with(self, values):
        return self.machine.begun_with(values), 0


class Watched(Wrapped):
    """Another machine along with which a rule runs.

    A store is a pair of a store of the other machine and a state of the rule.
    """

    def __init__(self, machine, rule):
        check_machine(machine)
        if not isinstance(rule, Rule):
            raise NotARule(rule)
        Wrapped.__init__(self, machine, machine.variables, (machine.first, 0))
        self.rule = rule

    def entered(self, store, entry, value):
        step = self.machine.entered(store[0], entry, value)
        return self.watched_step(store, ("call", entry, value), step, entry)

    def resumed(self, store, frame, answer):
        step = self.machine.resumed(store[0], frame, answer)
        move = ("answer", self.callout_of(frame), answer)
        return self.watched_step(store, move, step, self.entry_of(frame))

    def watched_step(self, store, move, step, entry):
        """The step of the other machine, with the rule led through this move and then the response."""
        response, inner, frame = step
        if response == HANG:
            return HANG, store, None
        event = ("back", entry, response[1]) if response[0] == "back" else response
        state = self.rule.next_state(store[1], move)
        return response, (inner, self.rule.next_state(state, event)), frame

    def shown_in(self, store):
        return self.machine.shown_in(store[0])

    def begun_with(self, values):
        return self.machine.begun_with(values), 0


class Layered(Machine):
    """An upper machine, of whose callouts some are answered by the entries of a lower one.

    A store is a pair of a store of the upper and one of the lower machine. A frame is a pair of a frame
    of the upper machine and, if the callout is one of the lower machine, its frame, otherwise None.
    """

    def __init__(self, upper, lower, wires):
        check_machine(upper)
        check_machine(lower)
        check_variables(upper, lower)
        check_wires(upper.face, lower.face, wires)
        wired = dict(wires)
        callouts = [triple for triple in upper.face.callouts if triple[0] not in wired]
        check_callouts(callouts, lower.face)
        face = Face(upper.face.entries, callouts + list(lower.face.callouts))
        Machine.__init__(self, face, upper.variables + lower.variables, (upper.first, lower.first))
        self.upper = upper
        self.lower = lower
        self.wires = wires
        self.wired = wired

    def entered(self, store, entry, value):
        return self.settled(store, self.upper.entered(store[0], entry, value), store[1])

    def resumed(self, store, frame, answer):
        upper, lower = frame
        if lower is None:
            return self.settled(store, self.upper.resumed(store[0], upper, answer), store[1])
        response, inner, lower = self.lower.resumed(store[1], lower, answer)
        if response[0] == "back":
            return self.settled(store, self.upper.resumed(store[0], upper, response[1]), inner)
        if response == HANG:
            return HANG, store, None
        return response, (store[0], inner), (upper, lower)

    def settled(self, store, step, lower):
        """The step of this machine behind a step of the upper one, with this store of the lower one."""
        response, upper, frame = step
        seen = {}
        while response[0] == "out" and response[1] in self.wired:
            # What the two do next depends on this alone: if it comes again, it comes for ever.
            point = (response, upper, frame, lower)
            if point in seen:
                return HANG, store, None
            seen[point] = True
            result, lower, inner = self.lower.entered(lower, self.wired[response[1]], response[2])
            if result == HANG:
                return HANG, store, None
            if result[0] == "out":
                return result, (upper, lower), (frame, inner)
            response, upper, frame = self.upper.resumed(upper, frame, result[1])
        if response == HANG:
            return HANG, store, None
        if response[0] == "out":
            return response, (upper, lower), (frame, None)
        return response, (upper, lower), None

    def shown_in(self, store):
        return self.upper.shown_in(store[0]) + self.lower.shown_in(store[1])

    def begun_with(self, values):
        many = len(self.upper.variables)
        return self.upper.begun_with(values[:many]), self.lower.begun_with(values[many:])

    def entry_of(self, frame):
        return self.upper.entry_of(frame[0])

    def callout_of(self, frame):
        upper, lower = frame
        return self.upper.callout_of(upper) if lower is None else self.lower.callout_of(lower)


def guarded_step(store, step):
    """The step of a guarded machine from this store on, if that of the machine in it is `step`."""
    response, inner, frame = step
    if response == HANG:
        return HANG, store, None
    return response, (inner, 1 if response[0] == "out" else 0), frame


def check_machine(value):
    """Raise the error for a value that is not a machine."""
    if not isinstance(value, Machine):
        raise NotAMachine(value)


def check_values(variables, values):
    """Raise the error for a value that is not a tuple of a value for each of these variables."""
    if not isinstance(values, tuple) or len(values) != len(variables):
        raise InvalidStore(None)
    for index, variable in enumerate(variables):
        if not is_value(values[index], variable[1]):
            raise InvalidStore(index)


def check_variables(upper, lower):
    """Raise the error for two machines that have a variable of the same name."""
    names = [variable[0] for variable in lower.variables]
    for variable in upper.variables:
        if variable[0] in names:
            raise SharedName(None, variable[0])


def check_wires(upper, lower, wires):
    """Raise the error for a value that is not a tuple of wires between machines with these faces."""
    if not isinstance(wires, tuple):
        raise InvalidWires(None)
    wired = {}
    for index, wire in enumerate(wires):
        if not is_wire(upper, lower, wire) or wire[0] in wired:
            raise InvalidWires(index)
        wired[wire[0]] = True


def is_wire(upper, lower, value):
    """Whether any value is a wire between machines with these faces."""
    if not isinstance(value, tuple) or len(value) != 2:
        return False
    callout = upper.callout_named(value[0])
    entry = lower.entry_named(value[1])
    return callout is not None and entry is not None and callout[1:] == entry[1:]


def check_callouts(callouts, lower):
    """Raise the error for callouts of an upper machine without wires that do not go with a lower face."""
    for callout in callouts:
        if lower.callout_named(callout[0]) is not None:
            raise InvalidWires(None)
    if len(callouts) + len(lower.callouts) > MAX_CALLOUTS:
        raise TooMany(MAX_CALLOUTS)

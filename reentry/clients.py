"""Clients: modules that are the surroundings of machines, and what they play when they are linked."""

from reentry.errors import FacesDiffer, InvalidName, TooLong, TooMany
from reentry.expressions import Equal, Number, Variable
from reentry.limits import FAIL, MAX_CLIENT, MAX_ENTRIES
from reentry.machines import HANG, check_machine
from reentry.modules import Entry, Module, check_module
from reentry.names import is_name
from reentry.plays import check_count
from reentry.sessions import played
from reentry.statements import Assign, Attempt, Call, Fail, If, Return
from reentry.turns import step_behind

# The variable in which a client counts the moves that it has made, and the parameter of its entries.
COUNTER = "n"
PARAMETER = "p"


def client_of(machine, moves, start="main"):
    """A client that makes just these moves."""
    session = played(machine, moves)
    if len(moves) > MAX_CLIENT:
        raise TooLong(MAX_CLIENT)
    face = machine.face
    if not is_name(start) or face.callout_named(start) is not None:
        raise InvalidName(start)
    heads = ((start, 1, 1),) + face.callouts
    if len(heads) > MAX_ENTRIES:
        raise TooMany(MAX_ENTRIES)
    bodies = bodies_for(session.log, start, heads)
    entries = [
        Entry(name, arguments, results, PARAMETER, body=tuple(bodies[name])) for name, arguments, results in heads
    ]
    variables = ((COUNTER, len(moves) + 1, 0),)
    callouts = face.entries
    return Module(*entries, variables=variables, callouts=callouts)


def bodies_for(log, start, heads):
    """The bodies of the entries of a client, as lists, by the names of these entries.

    A move is made by the entry that was called by the callout that became pending last, or by the start. The
    moves of an entry stand in their sequence, so that each run of it comes to its own ones in turn.
    """
    bodies = {head[0]: [] for head in heads}
    running = [start]
    for index, (move, response) in enumerate(log):
        bodies[running[-1]].append(made_at(index, move))
        if move[0] == "answer":
            running.pop()
        if response[0] == "out":
            running.append(response[1])
    return bodies


def made_at(index, move):
    """The statement that makes a move if it is the one with this index."""
    count = Assign(COUNTER, Number(index + 1))
    return If(Equal(Variable(COUNTER), Number(index)), (count, making(move)))


def making(move):
    """The statement with which a client makes a move."""
    if move[0] == "call":
        return Attempt((Call(move[1], Number(move[2])),))
    if move[1] == FAIL:
        return Fail()
    return Return(Number(move[1]))


def linked(machine, client, start, most):
    """The log of a machine that is linked with a client, and how it ends."""
    check_machine(machine)
    check_module(client)
    check_client(machine.face, client.face, start)
    check_count(most)
    asked = Side(machine)
    asking = Side(client)
    log = []
    response = asking.response_to(("call", start, 0))
    while response != HANG and (response[0] == "out" or asked.waiting):
        if len(log) == most:
            return tuple(log), "cut"
        move = move_for(response)
        reply = asked.response_to(move)
        log.append((move, reply))
        if reply == HANG:
            return tuple(log), "hang"
        response = asking.response_to(move_for(reply))
    return tuple(log), "hang" if response == HANG else "done"


def check_client(face, other, start):
    """Raise the error for a module with the face `other` that is not a client of a face with this start."""
    entry = other.entry_named(start)
    entries = tuple([triple for triple in other.entries if triple != entry])
    if entry is None or other.callouts != face.entries or entries != face.callouts:
        raise FacesDiffer()


def move_for(response):
    """The move that a response of one side is for the other side."""
    if response[0] == "out":
        return ("call", response[1], response[2])
    return ("answer", response[1])


class Side:
    """A machine that is linked with another one, with its store and the frames of its callouts that wait."""

    def __init__(self, machine):
        self.machine = machine
        self.store = machine.first
        self.waiting = []

    def response_to(self, move):
        """The response to a move."""
        answered = self.waiting.pop() if move[0] == "answer" else None
        response, store, frame = step_behind(self.machine, self.store, answered, move)
        if response[0] == "out":
            self.waiting.append(frame)
        self.store = store
        return response

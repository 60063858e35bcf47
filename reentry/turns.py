"""The turns of the surroundings: what is a move there, and which moves are allowed.

In all functions `callout` is the name of the callout that became pending last; None if none is pending.
"""

from reentry.limits import FAIL
from reentry.names import is_integer, is_value


def is_move(face, callout, value):
    """Whether any value is a move."""
    if not isinstance(value, tuple) or not 2 <= len(value) <= 3 or not isinstance(value[0], str):
        return False
    if len(value) == 3:
        entry = face.entry_named(value[1])
        return value[0] == "call" and entry is not None and is_value(value[2], entry[1])
    if value[0] != "answer" or not is_integer(value[1]) or value[1] < FAIL:
        return False
    return callout is None or value[1] < face.callout_named(callout)[2]


def is_allowed(table, callout, move):
    """Whether a table allows a move."""
    if move[0] == "answer":
        return callout is not None
    return callout is None or table.allows(callout, move[1])


def allowed_moves(face, table, callout):
    """The moves that a table allows, ascending."""
    return answers_to(face, callout) + allowed_calls(face, table, callout)


def answers_to(face, callout):
    """The answers to the callout, ascending; none if no callout is pending."""
    if callout is None:
        return []
    return [("answer", value) for value in range(FAIL, face.callout_named(callout)[2])]


def allowed_calls(face, table, callout):
    """The calls that a table allows, ascending."""
    return [
        ("call", name, value)
        for name, arguments, _ in face.entries
        if callout is None or table.allows(callout, name)
        for value in range(arguments)
    ]


def step_behind(machine, store, frame, move):
    """What `enter` or `resume` gives for a move; an answer belongs to the callout with this frame."""
    if move[0] == "call":
        return machine.entered(store, move[1], move[2])
    return machine.resumed(store, frame, move[1])

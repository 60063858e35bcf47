"""Plays: rows of moves, those that are found, and all of them."""

from reentry.errors import InvalidCount, TooLong
from reentry.limits import MAX_WRITTEN
from reentry.machines import HANG, check_machine
from reentry.names import is_integer
from reentry.pieces import length_of, moves_in
from reentry.tables import table_for
from reentry.turns import allowed_moves, step_behind


class Play:
    """A play in a short form."""

    def __init__(self, piece):
        self.length = length_of(piece)
        self.piece = piece

    def at(self, index):
        """The move with this index."""
        check_count(index, self.length - 1)
        return moves_in(self.piece, index, 1)[0]

    def part(self, start, many):
        """At most so many moves from an index on."""
        check_count(start)
        check_count(many, MAX_WRITTEN)
        return moves_in(self.piece, start, many)

    def moves(self):
        """All moves."""
        if self.length > MAX_WRITTEN:
            raise TooLong(MAX_WRITTEN)
        return moves_in(self.piece, 0, self.length)

    def __repr__(self):
        return f"Play({self.length} moves)"


def plays(machine, most, during=None):
    """All plays with at most so many moves, as tuples, the shorter ones first, then ascending."""
    check_machine(machine)
    check_count(most)
    table = table_for(machine, during)
    yield ()
    # The points of the session behind all plays of the present length: moves, store, pending callouts and frames.
    points = [((), machine.first, ())]
    length = 0
    while points and length < most:
        length += 1
        further = []
        for moves, store, waiting in points:
            callout = waiting[-1][0] if waiting else None
            for move in allowed_moves(machine.face, table, callout):
                yield moves + (move,)
                if length < most:
                    further += points_behind(machine, (moves, store, waiting), move)
        points = further


def points_behind(machine, point, move):
    """The point behind a move as the only element of a list, which is empty if the session is over then."""
    moves, store, waiting = point
    answered = waiting[-1][1] if waiting else None
    response, store, frame = step_behind(machine, store, answered, move)
    if response == HANG:
        return []
    if move[0] == "answer":
        waiting = waiting[:-1]
    if response[0] == "out":
        waiting = waiting + ((response[1], frame),)
    return [(moves + (move,), store, waiting)]


def check_count(value, most=None):
    """Raise the error for a value that is not an integer from 0 on, and not above `most` if this is not None."""
    if not is_integer(value) or value < 0 or (most is not None and value > most):
        raise InvalidCount(value)

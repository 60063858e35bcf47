"""Pieces of plays in a short form: a move, or two pieces one behind the other.

None stands for the piece without moves. Pieces are shared, so that a piece of many million moves is kept in
a few objects, and they may be nested very deep: nothing here goes down by calls of functions.
"""


class Piece:
    """A move, or a first piece and a second one behind it."""

    def __init__(self, length, move, first, second):
        self.length = length
        self.move = move
        self.first = first
        self.second = second


def single(move):
    """The piece of one move."""
    return Piece(1, move, None, None)


def joined(first, second):
    """The piece of two pieces one behind the other."""
    if first is None:
        return second
    return Piece(first.length + second.length, None, first, second)


def length_of(piece):
    """The number of moves of a piece."""
    return 0 if piece is None else piece.length


def moves_in(piece, start, many):
    """At most so many moves of a piece from an index on."""
    moves = []
    left_out = start
    ahead = [] if piece is None else [piece]
    while ahead and len(moves) < many:
        part = ahead.pop()
        if left_out >= part.length:
            left_out -= part.length
        elif part.first is None:
            moves.append(part.move)
        else:
            ahead += [part.second, part.first]
    return tuple(moves)

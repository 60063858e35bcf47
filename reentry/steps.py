"""The steps of a system, with numbers for its stores and frames.

A system is a machine, or two machines beside each other. A *door* is a pair (store, entry): the calls of this
entry from this store. A *turn* is a pair (frame, store): the surroundings' turn with this store while the
callout with this frame is the one that became pending last; the frame is None if none is pending. A *step* is
what a move leads to: (piece, response, store, frame), with the piece of the move, the store behind it or None
if nothing comes behind the response, and the frame that waits or None.
"""

from reentry.pieces import single
from reentry.turns import answers_to


class Numbering:
    """Things with numbers; the first one has the number 0."""

    def __init__(self):
        self.numbers = {}
        self.things = []

    def number_of(self, thing):
        """The number of a thing, a new one if the thing is new."""
        number = self.numbers.get(thing)
        if number is None:
            number = len(self.things)
            self.numbers[thing] = number
            self.things.append(thing)
        return number


class Steps:
    """The steps of a system under a table of calls back, found when they are asked for.

    The first store has the number 0. `responses` has all responses that were found.
    """

    def __init__(self, system, table):
        self.system = system
        self.arguments = {entry[0]: entry[1] for entry in system.face.entries}
        self.entries = entries_by_callout(system.face, table)
        self.stores = Numbering()
        self.waits = Numbering()
        self.callouts = []
        self.singles = {}
        self.responses = {}
        self.from_doors = {}
        self.from_turns = {}
        self.stores.number_of(system.first)

    def entries_at(self, frame):
        """The names of the entries that may be called at a turn with this frame."""
        return self.entries[None if frame is None else self.callouts[frame]]

    def doors_at(self, turn):
        """The doors whose calls are allowed at a turn."""
        frame, store = turn
        return [(store, entry) for entry in self.entries_at(frame)]

    def calls_from(self, door):
        """The steps of the calls of a door, with ascending values."""
        if door not in self.from_doors:
            number, entry = door
            store = self.stores.things[number]
            self.from_doors[door] = [
                self.numbered(("call", entry, value), self.system.entered(store, entry, value))
                for value in range(self.arguments[entry])
            ]
        return self.from_doors[door]

    def answers_at(self, turn):
        """The steps of the answers at a turn, with ascending values; none if no callout is pending."""
        frame, number = turn
        if frame is None:
            return []
        if turn not in self.from_turns:
            store, waiting = self.stores.things[number], self.waits.things[frame]
            self.from_turns[turn] = [
                self.numbered(move, self.system.resumed(store, waiting, move[1]))
                for move in answers_to(self.system.face, self.callouts[frame])
            ]
        return self.from_turns[turn]

    def numbered(self, move, step):
        """The step that a move leads to."""
        response, store, frame = step
        self.responses[response] = True
        piece = self.singles.get(move)
        if piece is None:
            piece = single(move)
            self.singles[move] = piece
        if response[0] == "back":
            return piece, response, self.stores.number_of(store), None
        if response[0] == "out":
            return piece, response, self.stores.number_of(store), self.frame_number(frame, response[1])
        return piece, response, None, None

    def frame_number(self, frame, callout):
        """The number of a frame that waits for an answer to this callout."""
        number = self.waits.number_of(frame)
        if number == len(self.callouts):
            self.callouts.append(callout)
        return number


def entries_by_callout(face, table):
    """The names of the entries that may be called at a turn, by the callout that became pending last, or None."""
    names = {None: [entry[0] for entry in face.entries]}
    for callout in face.callouts:
        names[callout[0]] = [entry[0] for entry in face.entries if table.allows(callout[0], entry[0])]
    return names

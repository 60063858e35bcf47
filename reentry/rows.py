"""The tables of grounds, places and ends that the first store of a system asks for.

Stores and frames are known by their numbers, doors and turns are as in reentry/steps.py, and a call is known
by its number, too. A *row* is a triple (call, frame, store): a turn that this call comes to, which is a place
of the tables, or an end if the frame is None. Grounds are kept apart.
"""

from reentry.errors import TooLarge
from reentry.limits import MAX_ROWS
from reentry.offers import Offers
from reentry.steps import Steps


class Rows:
    """The tables of a system under a table of calls back, with a shortest piece of a play for each row.

    `calls` has the door of each call. `hops` has for each door the stores behind its calls that have ended,
    `ways` the turns that its calls come to, each with a shortest piece that begins with a call of the door, and
    the shortest ones first. `held` has for each door the places at which its calls are made, each with its piece.

    A row follows from other rows, and its piece consists of theirs. The shortest piece on offer is always taken
    first. When one is taken, all rows with shorter ones, of the calls that were made so far, have been taken: the
    rows that they follow from were taken before them, and have offered them. That stays so when a call is first
    made, though offers begin again with short ones then, since it is a place that was taken that makes it. So
    each piece that is taken is a shortest one.
    """

    def __init__(self, system, table):
        self.steps = Steps(system, table)
        self.calls = []
        self.hops = {}
        self.ways = {}
        self.held = {}
        self.grounds = {}
        self.offers = Offers()
        self.many = 0
        self.add_grounds(0)
        taken = self.offers.take()
        while taken is not None:
            self.settle(taken[0], taken[1])
            taken = self.offers.take()

    def add_grounds(self, store):
        """Add this ground, and all that follow from it and the ends that are known."""
        ahead = [store]
        while ahead:
            ground = ahead.pop()
            if ground not in self.grounds:
                self.grounds[ground] = True
                self.count_row()
                for door in self.steps.doors_at((None, ground)):
                    self.make_calls(door)
                    ahead += list(self.hops[door])

    def make_calls(self, door):
        """Add what the calls of a door lead to at once, if they were not made before."""
        if door in self.hops:
            return
        self.hops[door] = {}
        self.ways[door] = {}
        self.held[door] = []
        for piece, _, store, frame in self.steps.calls_from(door):
            call = len(self.calls)
            self.calls.append(door)
            self.add_row((call, frame, store), None, piece)

    def settle(self, row, piece):
        """Take a row with its shortest piece, and add what follows from it and the rows that were taken before."""
        call, frame, store = row
        if frame is None:
            self.settle_end(self.calls[call], store, piece)
        else:
            self.settle_place(call, (frame, store), piece)

    def settle_end(self, door, store, piece):
        """Take an end of a call of this door."""
        if store in self.hops[door]:
            return
        self.hops[door][store] = piece
        for call, frame, before in self.held[door]:
            self.add_row((call, frame, store), before, piece)
        if door[0] in self.grounds:
            self.add_grounds(store)

    def settle_place(self, call, turn, piece):
        """Take a place: this turn, to which a call comes."""
        frame = turn[0]
        self.ways[self.calls[call]].setdefault(turn, piece)
        for door in self.steps.doors_at(turn):
            self.make_calls(door)
            self.held[door].append((call, frame, piece))
            for store, hop in self.hops[door].items():
                self.add_row((call, frame, store), piece, hop)
        for answer, _, store, further in self.steps.answers_at(turn):
            self.add_row((call, further, store), piece, answer)

    def add_row(self, row, first, second):
        """Offer two pieces, the first one perhaps None, for a row; nothing if no store is behind them."""
        if row[2] is not None and self.offers.offer(row, first, second):
            self.count_row()

    def count_row(self):
        """Count one row more."""
        self.many += 1
        if self.many > MAX_ROWS:
            raise TooLarge(MAX_ROWS)

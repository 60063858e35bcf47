"""The shortest plays of a system that lead to turns of the surroundings, or end with certain steps."""

from reentry.offers import Offers
from reentry.pieces import joined
from reentry.plays import Play


class Routes:
    """The way to each turn. `turns` has a shortest piece for each of them, the nearest turns first.

    What lies below the callout that became pending last makes no difference for what comes, so that turns
    with the same frame and store count as one.
    """

    def __init__(self, rows):
        self.rows = rows
        self.turns = {}
        self.passed = {}
        self.offers = Offers()
        self.offers.offer((None, 0), None, None)
        taken = self.offers.take()
        while taken is not None:
            self.reach(taken[0], taken[1])
            taken = self.offers.take()

    def reach(self, turn, piece):
        """Take a turn with its shortest piece, and offer those behind it."""
        self.turns[turn] = piece
        for door in self.rows.steps.doors_at(turn):
            if turn[0] is None:
                for store, hop in self.rows.hops[door].items():
                    self.offers.offer((None, store), piece, hop)
            if door not in self.passed:
                self.passed[door] = True
                for further, way in self.rows.ways[door].items():
                    self.offers.offer(further, piece, way)

    def play_to_turn(self, is_wanted):
        """A shortest play to a turn for which the function is true; None if there is none."""
        for turn, piece in self.turns.items():
            if is_wanted(turn):
                return Play(piece)
        return None

    def play_to_step(self, is_wanted):
        """A shortest play that ends with a step for which the function of turn and step is true, or None."""
        steps = self.rows.steps
        tried = {}
        for turn, piece in self.turns.items():
            found = [step for step in steps.answers_at(turn) if is_wanted(turn, step)]
            for door in steps.doors_at(turn):
                # The same calls at a later turn would make no shorter play.
                if door not in tried:
                    tried[door] = True
                    found += [step for step in steps.calls_from(door) if is_wanted(turn, step)]
            if found:
                return Play(joined(piece, found[0][0]))
        return None

"""Sessions: a machine and its surroundings, move by move."""

from reentry.errors import InvalidMove, InvalidMoves, NotAllowed, NothingToUndo, Over
from reentry.limits import FAIL
from reentry.machines import HANG, check_machine
from reentry.tables import table_for
from reentry.turns import allowed_moves, is_allowed, is_move, step_behind


class Session:
    """A session of a machine, under a table of calls back.

    `_waiting` has the names of the pending callouts, each with its frame. `_past` has for each move the
    store before it, and the pair of `_waiting` that it answered, or None: what `undo` needs.
    """

    def __init__(self, machine, during=None):
        check_machine(machine)
        self.during = table_for(machine, during)
        self.machine = machine
        self.store = machine.first
        self.shown = machine.values_in(machine.first)
        self.is_over = False
        self._waiting = []
        self._moves = []
        self._past = []

    @property
    def pending(self):
        """The names of the pending callouts, the one that became pending first ahead."""
        return tuple([name for name, _ in self._waiting])

    @property
    def frames(self):
        """The frames of the pending callouts."""
        return tuple([frame for _, frame in self._waiting])

    @property
    def log(self):
        """The pairs of a move and its response."""
        return tuple(self._moves)

    def call(self, entry, value=0):
        """Call an entry."""
        return self._make(("call", entry, value))

    def answer(self, value):
        """Answer the callout that became pending last."""
        return self._make(("answer", value))

    def fail(self):
        """Let the callout that became pending last fail."""
        return self._make(("answer", FAIL))

    def __call__(self, move):
        return self._make(move)

    def choices(self):
        """The moves that are allowed now, ascending."""
        if not self.is_over:
            yield from allowed_moves(self.machine.face, self.during, self._callout())

    def undo(self):
        """Take back the last move and its response."""
        if not self._moves:
            raise NothingToUndo()
        _, response = self._moves.pop()
        store, answered = self._past.pop()
        if response[0] == "out":
            self._waiting.pop()
        if answered is not None:
            self._waiting.append(answered)
        self._stand(store, False)

    def twin(self):
        """A new session at the same point, with the same log."""
        other = Session(self.machine, self.during)
        other._follow(self)
        return other

    def __len__(self):
        return len(self._moves)

    def _callout(self):
        """The name of the callout that became pending last; None if none is pending."""
        return self._waiting[-1][0] if self._waiting else None

    def _make(self, move):
        """Make a move; its response."""
        if self.is_over:
            raise Over()
        if not is_move(self.machine.face, self._callout(), move):
            raise InvalidMove(move)
        if not is_allowed(self.during, self._callout(), move):
            raise NotAllowed(move)
        waiting = self._waiting[-1] if self._waiting else (None, None)
        response, store, frame = step_behind(self.machine, self.store, waiting[1], move)
        answered = self._waiting.pop() if move[0] == "answer" else None
        if response[0] == "out":
            self._waiting.append((response[1], frame))
        self._moves.append((move, response))
        self._past.append((self.store, answered))
        self._stand(store, response == HANG)
        return response

    def _stand(self, store, is_over):
        """Have this store, and be over or not."""
        self.store = store
        self.shown = self.machine.values_in(store)
        self.is_over = is_over

    def _follow(self, other):
        """Come to the point of another session of the same machine."""
        self._waiting = list(other._waiting)
        self._moves = list(other._moves)
        self._past = list(other._past)
        self._stand(other.store, other.is_over)


def responses_of(machine, moves, during=None):
    """The responses of a play."""
    return tuple([response for _, response in played(machine, moves, during).log])


def played(machine, moves, during=None):
    """A new session in which the moves of a play were made."""
    session = Session(machine, during)
    make_moves(session, moves)
    return session


def make_moves(session, moves):
    """Make these moves in a session; an error if they are not a tuple of moves that can be made."""
    if not isinstance(moves, tuple):
        raise InvalidMoves(None)
    for index, move in enumerate(moves):
        try:
            session(move)
        except (Over, InvalidMove, NotAllowed):
            raise InvalidMoves(index) from None

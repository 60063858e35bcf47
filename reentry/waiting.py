"""Calls back that can wait until the outer call has ended."""

from reentry.errors import InvalidEntries, InvalidMoves, InvalidName
from reentry.machines import HANG, check_machine
from reentry.plays import Play
from reentry.routes import Routes
from reentry.rows import Rows
from reentry.sessions import played
from reentry.tables import Table, table_for


def is_quiet(machine, entry, during=None):
    """Whether each call of this entry gets a response back at once."""
    check_machine(machine)
    if machine.face.entry_named(entry) is None:
        raise InvalidName(entry)
    rows = Rows(machine, table_for(machine, during))
    calls = [call for door in rows.hops if door[1] == entry for call in rows.steps.calls_from(door)]
    return all([is_back(call) for call in calls])


def can_wait(machine, entries):
    """Whether calls of these entries can wait."""
    return obstacle(machine, entries) is None


def obstacle(machine, entries):
    """A play, a call and an answer that show that calls of these entries cannot wait; None if they can."""
    check_machine(machine)
    check_waiting(machine.face, entries)
    return obstacle_in(Rows(machine, table_of(machine.face, entries)))


def put_off(machine, entries, moves):
    """A play in which the calls back of these entries wait until the outer calls have ended."""
    check_machine(machine)
    check_waiting(machine.face, entries)
    table = table_of(machine.face, entries)
    session = played(machine, moves, table)
    if session.pending:
        raise InvalidMoves(len(moves))
    if obstacle_in(Rows(machine, table)) is not None:
        raise InvalidEntries(None)
    return moved(session.log)


def check_waiting(face, entries):
    """Raise the error for a value that is not a tuple of different names of entries."""
    if not isinstance(entries, tuple):
        raise InvalidEntries(None)
    taken = {}
    for index, entry in enumerate(entries):
        if face.entry_named(entry) is None or entry in taken:
            raise InvalidEntries(index)
        taken[entry] = True


def table_of(face, entries):
    """The table with the pairs of all callouts and these entries."""
    pairs = [(callout[0], entry) for callout in face.callouts for entry in entries]
    return Table(*pairs)


def obstacle_in(rows):
    """What `obstacle` returns, from the tables for the table of calls back that is meant."""
    for turn, piece in Routes(rows).turns.items():
        found = obstacle_at(rows.steps, turn)
        if found is not None:
            return Play(piece), found[0], found[1]
    return None


def obstacle_at(steps, turn):
    """A call and an answer, as moves, of which one cannot wait for the other at a turn; None if there are none."""
    frame, store = turn
    if frame is None:
        return None
    answers = steps.answers_at(turn)
    for door in steps.doors_at(turn):
        for value, call in enumerate(steps.calls_from(door)):
            # A callout can always be answered, if only by a failure, so that there is an answer to name here.
            kept = kept_answers(steps, frame, door[1], value, call, answers) if is_back(call) else 0
            if kept < len(answers):
                return call[0].move, answers[kept][0].move
    return None


def kept_answers(steps, frame, entry, value, call, answers):
    """The number of answers, counted up to the first one for which it matters whether this call comes first."""
    behind_call = steps.answers_at((frame, call[2]))
    kept = 0
    while kept < len(answers) and can_change_places(steps, entry, value, call, answers[kept], behind_call[kept]):
        kept += 1
    return kept


def can_change_places(steps, entry, value, call, answer, answer_behind):
    """Whether a call and an answer lead to the same, whichever comes first. The call gets a response back."""
    if answer[1] == HANG or answer[1] != answer_behind[1] or answer[3] != answer_behind[3]:
        return False
    call_behind = steps.calls_from((answer[2], entry))[value]
    return call_behind[1] == call[1] and call_behind[2] == answer_behind[2]


def is_back(step):
    """Whether the response of a step is back."""
    return step[1][0] == "back"


def moved(log):
    """The moves of a log, in each stretch with all calls but the first one behind the answers."""
    moves = []
    waiting = []
    pending = 0
    for move, response in log:
        if move[0] == "call" and pending > 0:
            waiting.append(move)
        else:
            moves.append(move)
        if move[0] == "answer":
            pending -= 1
        if response[0] == "out":
            pending += 1
        if pending == 0:
            moves += waiting
            waiting = []
    return tuple(moves)

"""Rules, which run along with moves and responses."""

from reentry.errors import InvalidBad, InvalidMove, InvalidSteps, InvalidValue
from reentry.limits import MAX_STATE
from reentry.names import is_integer, is_name

WORDS = ("call", "answer", "out", "back")
HANG_EVENT = ("hang",)


class Rule:
    """States, steps between them, and bad states that are never left."""

    def __init__(self, steps, bad):
        check_steps(steps)
        check_bad(bad)
        self.steps = steps
        self.bad = bad

    def after(self, state, event):
        """The state behind an event that has all its parts."""
        if not is_state(state):
            raise InvalidValue(state)
        if not is_full_event(event):
            raise InvalidMove(event)
        return self.next_state(state, event)

    def next_state(self, state, event):
        """The same, without a look at what is passed."""
        if state in self.bad:
            return state
        for before, pattern, behind in self.steps:
            if before == state and fits(pattern, event):
                return behind
        return state

    def __eq__(self, other):
        return isinstance(other, Rule) and self.steps == other.steps and self.bad == other.bad


def check_steps(steps):
    """Raise the error for a value that is not a tuple of steps."""
    if not isinstance(steps, tuple):
        raise InvalidSteps(None)
    for index, step in enumerate(steps):
        if not is_step(step):
            raise InvalidSteps(index)


def check_bad(bad):
    """Raise the error for a value that is not a tuple of different states."""
    if not isinstance(bad, tuple):
        raise InvalidBad(None)
    for index, state in enumerate(bad):
        if not is_state(state) or state in bad[:index]:
            raise InvalidBad(index)


def is_step(value):
    """Whether any value is a step of a rule."""
    if not isinstance(value, tuple) or len(value) != 3:
        return False
    before, event, behind = value
    return is_state(before) and is_event(event) and is_state(behind)


def is_state(value):
    """Whether any value is a state of a rule."""
    return is_integer(value) and 0 <= value <= MAX_STATE


def is_event(value):
    """Whether any value is an event, with or without a value in it."""
    if not isinstance(value, tuple) or not 1 <= len(value) <= 3:
        return False
    if not isinstance(value[0], str):
        return False
    if len(value) == 1:
        return value == HANG_EVENT
    if value[0] not in WORDS or not is_name(value[1]):
        return False
    return len(value) == 2 or is_integer(value[2])


def is_full_event(value):
    """Whether any value is an event that has all its parts."""
    return is_event(value) and len(value) != 2


def fits(pattern, event):
    """Whether an event of a step fits an event that has all its parts."""
    return event[:len(pattern)] == pattern

"""The errors of the program.

No error class stands between an error and the base class that the document names for it, so that an
error is an instance of no third one; that is why each class has an `__init__` of its own.
"""


class ReentryError(ValueError):
    """The base class of errors about what was passed."""


class StateError(LookupError):
    """The base class of errors about what cannot be done at this point."""


class LimitError(ArithmeticError):
    """The base class of errors about limits."""


class InvalidName(ReentryError):
    """A value that is not a name, or not one that is known where it stands."""

    def __init__(self, value):
        self.value = value


class InvalidSize(ReentryError):
    """A value that is not a size."""

    def __init__(self, value):
        self.value = value


class InvalidNumber(ReentryError):
    """A value that is not the number of an expression."""

    def __init__(self, value):
        self.value = value


class InvalidValue(ReentryError):
    """A value that is not one of those that are possible where it stands."""

    def __init__(self, value):
        self.value = value


class InvalidText(ReentryError):
    """A value that is not the text of what is read."""

    def __init__(self, value):
        self.value = value


class InvalidMove(ReentryError):
    """A value that is not a move, or not an event."""

    def __init__(self, value):
        self.value = value


class InvalidResponse(ReentryError):
    """A value that is not a response."""

    def __init__(self, value):
        self.value = value


class InvalidCount(ReentryError):
    """A value that is not an integer in the range that is asked for."""

    def __init__(self, value):
        self.value = value


class InvalidDeed(ReentryError):
    """A value that is not a deed of a workshop."""

    def __init__(self, value):
        self.value = value


class NotAnExpression(ReentryError):
    """A value that is not an expression."""

    def __init__(self, value):
        self.value = value


class NotAModule(ReentryError):
    """A value that is not a module."""

    def __init__(self, value):
        self.value = value


class NotAMachine(ReentryError):
    """A value that is not a machine."""

    def __init__(self, value):
        self.value = value


class NotATable(ReentryError):
    """A value that is not a table of calls back."""

    def __init__(self, value):
        self.value = value


class NotARule(ReentryError):
    """A value that is not a rule."""

    def __init__(self, value):
        self.value = value


class InvalidBody(ReentryError):
    """A body with an element that is not as required."""

    def __init__(self, index):
        self.index = index


class InvalidSlots(ReentryError):
    """Slots with an element that is not as required."""

    def __init__(self, index):
        self.index = index


class InvalidEntries(ReentryError):
    """Entries with an element that is not as required."""

    def __init__(self, index):
        self.index = index


class InvalidVariables(ReentryError):
    """Variables with an element that is not as required."""

    def __init__(self, index):
        self.index = index


class InvalidCallouts(ReentryError):
    """Callouts with an element that is not as required."""

    def __init__(self, index):
        self.index = index


class InvalidPairs(ReentryError):
    """Pairs of a callout and an entry with an element that is not as required."""

    def __init__(self, index):
        self.index = index


class InvalidWires(ReentryError):
    """Wires with an element that is not as required."""

    def __init__(self, index):
        self.index = index


class InvalidSteps(ReentryError):
    """Steps of a rule with an element that is not as required."""

    def __init__(self, index):
        self.index = index


class InvalidBad(ReentryError):
    """Bad states of a rule with an element that is not as required."""

    def __init__(self, index):
        self.index = index


class InvalidStore(ReentryError):
    """Values of a store with an element that is not as required."""

    def __init__(self, index):
        self.index = index


class InvalidMoves(ReentryError):
    """Moves with an element that is not as required."""

    def __init__(self, index):
        self.index = index


class UnknownPair(ReentryError):
    """A pair of a table that is not a callout and an entry of the face."""

    def __init__(self, pair):
        self.pair = pair


class SharedName(ReentryError):
    """A name that stands for two things."""

    def __init__(self, entry, name):
        self.entry = entry
        self.name = name


class UnknownName(ReentryError):
    """A name that stands for nothing."""

    def __init__(self, entry, name):
        self.entry = entry
        self.name = name


class NotAllowed(StateError):
    """A move that the table does not allow at this turn."""

    def __init__(self, move):
        self.move = move


class UnknownModule(StateError):
    """A value that is not the name of a module of the workshop."""

    def __init__(self, name):
        self.name = name


class BrokenDemand(StateError):
    """A demand that is not as described or does not hold."""

    def __init__(self, demand):
        self.demand = demand


class UnknownDemand(StateError):
    """A demand that the workshop does not have."""

    def __init__(self, demand):
        self.demand = demand


class Over(StateError):
    """A move in a session that is over."""


class NothingToUndo(StateError):
    """There is nothing that could be taken back."""


class FacesDiffer(StateError):
    """The faces of two machines are not equal."""


class TooMany(LimitError):
    """More of something than the limit."""

    def __init__(self, limit):
        self.limit = limit


class TooLarge(LimitError):
    """Something is larger than the limit."""

    def __init__(self, limit):
        self.limit = limit


class TooLong(LimitError):
    """Something is longer than the limit."""

    def __init__(self, limit):
        self.limit = limit

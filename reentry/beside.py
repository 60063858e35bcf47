"""Two machines beside each other, which get the same moves as long as they give the same responses."""

from reentry.errors import FacesDiffer
from reentry.machines import check_machine

# Stands for the responses of two machines that are not the same.
PARTED = ("parted",)


class Beside:
    """Two machines with equal faces as one system: its stores and frames are pairs of those of the machines."""

    def __init__(self, one, other):
        check_machine(one)
        check_machine(other)
        if one.face != other.face:
            raise FacesDiffer()
        self.one = one
        self.other = other
        self.face = one.face
        self.first = (one.first, other.first)

    def entered(self, store, entry, value):
        """The step behind a call."""
        return common(self.one.entered(store[0], entry, value), self.other.entered(store[1], entry, value))

    def resumed(self, store, frame, answer):
        """The step behind an answer."""
        return common(self.one.resumed(store[0], frame[0], answer), self.other.resumed(store[1], frame[1], answer))


def common(step, other):
    """The step of two machines beside each other, from a step of each."""
    if step[0] != other[0]:
        return PARTED, None, None
    return step[0], (step[1], other[1]), (step[2], other[2])

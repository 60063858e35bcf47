"""Offers of pieces for keys, of which the shortest ones are taken first."""

from heapq import heappop, heappush

from reentry.pieces import joined, length_of


class Offers:
    """What was offered, and `taken`, the keys for which a piece was taken already."""

    def __init__(self):
        self.heap = []
        self.lengths = {}
        self.taken = {}
        self.many = 0

    def offer(self, key, first, second):
        """Offer two pieces one behind the other for a key; whether it is the first offer for this key."""
        length = length_of(first) + length_of(second)
        known = self.lengths.get(key)
        if known is None or length < known:
            self.lengths[key] = length
            # The number lets equally long pieces come in the sequence of their offers.
            self.many += 1
            heappush(self.heap, (length, self.many, key, first, second))
        return known is None

    def take(self):
        """A pair of a key and its piece, a shortest one of those that are offered; None if there is none."""
        while self.heap:
            key, first, second = heappop(self.heap)[2:]
            if key not in self.taken:
                self.taken[key] = True
                return key, joined(first, second)
        return None

"""Plain searches: all short plays, found move by move, and the tables of point 26, found rule by rule.

Nothing of the program's own searches is used, only `enter`, `resume` and `values_in` of machines.
"""

from reentry.tables import Table

HANG = ("hang",)


class Pair:
    """Two machines as one, with the response None where theirs differ."""

    def __init__(self, one, other):
        self.one, self.other = one, other
        self.face, self.first = one.face, (one.first, other.first)

    def both(self, step, beside):
        if step[0] != beside[0]:
            return None, None, None
        return step[0], (step[1], beside[1]), None if step[2] is None else (step[2], beside[2])

    def enter(self, store, entry, value):
        return self.both(self.one.enter(store[0], entry, value), self.other.enter(store[1], entry, value))

    def resume(self, store, frame, answer):
        return self.both(self.one.resume(store[0], frame[0], answer), self.other.resume(store[1], frame[1], answer))


def moves_at(machine, table, waiting):
    """The moves that are allowed when these (callout, frame) wait; a table that is None allows all."""
    found = []
    callout = waiting[-1][0] if waiting else None
    if waiting:
        answers = [triple[2] for triple in machine.face.callouts if triple[0] == callout][0]
        found += [("answer", value) for value in range(-1, answers)]
    for entry, arguments, _ in machine.face.entries:
        if not waiting or table is None or (callout, entry) in table.pairs:
            found += [("call", entry, value) for value in range(arguments)]
    return found


def made(machine, store, waiting, move):
    """The response, the store, and what waits behind a move."""
    if move[0] == "call":
        response, behind, frame = machine.enter(store, move[1], move[2])
    else:
        response, behind, frame = machine.resume(store, waiting[-1][1], move[1])
        waiting = waiting[:-1]
    if response is not None and response[0] == "out":
        waiting += ((response[1], frame),)
    return response, behind, waiting


class Search:
    """All points of sessions that some play with at most so many moves leads to.

    `turns` has for each turn (store, waiting) the shortest play to it; `ends` for each response the shortest
    play that ends with it. `watch`, if there is one, is called with each turn's play, store and waiting, and
    with each move, its response, and the store and what waits behind it.
    """

    def __init__(self, machine, table, most, watch=None):
        first = (machine.first, ())
        self.turns, self.ends = {first: ()}, {}
        level = [first]
        for length in range(most):
            further = []
            for store, waiting in level:
                play = self.turns[(store, waiting)]
                for move in moves_at(machine, table, waiting):
                    response, behind, left = made(machine, store, waiting, move)
                    if watch is not None:
                        watch(play, store, waiting, move, response, behind, left)
                    self.ends.setdefault(response, play + (move,))
                    if response is None or response == HANG or (behind, left) in self.turns:
                        continue
                    self.turns[(behind, left)] = play + (move,)
                    further.append((behind, left))
            level = further

    def nearest(self, wanted):
        """The shortest play to a turn (store, waiting) for which the function is true; None if there is none."""
        found = [play for (store, waiting), play in self.turns.items() if wanted(store, waiting)]
        return min(found, key=len) if found else None


def tables_of(machine, table, most=None):
    """The grounds, places and ends of point 26 that begin with the first store, as sets, without hurry.

    Rules are applied until nothing comes of them; None if there come to be more than `most` rows.
    """
    entries = {name: arguments for name, arguments, _ in machine.face.entries}
    answers = {name: many for name, _, many in machine.face.callouts}
    grounds, places, ends, callouts = {machine.first}, set(), set(), {}
    covered, before = set(), None

    def put(call, response, store, frame):
        if response is None or response == HANG:
            return
        if response[0] == "back":
            ends.add((call, store))
        else:
            places.add((call, (frame, store)))
            callouts[frame] = response[1]

    def cover(call):
        if call not in covered:
            covered.add(call)
            response, store, frame = machine.enter(*call)
            put(call, response, store, frame)

    while before != (len(grounds), len(places), len(ends), len(covered)):
        before = (len(grounds), len(places), len(ends), len(covered))
        if most is not None and sum(before[:3]) > most:
            return None
        for store in list(grounds):
            for entry, arguments in entries.items():
                for value in range(arguments):
                    cover((store, entry, value))
        behind = {}
        for call, store in ends:
            behind.setdefault(call, []).append(store)
        for call, (frame, store) in list(places):
            for entry, arguments in entries.items():
                if table is not None and (callouts[frame], entry) not in table.pairs:
                    continue
                for value in range(arguments):
                    cover((store, entry, value))
                    for after in behind.get((store, entry, value), ()):
                        places.add((call, (frame, after)))
            for answer in range(-1, answers[callouts[frame]]):
                put(call, *machine.resume(store, frame, answer))
        for (store, entry, value), after in list(ends):
            if store in grounds:
                grounds.add(after)
    return grounds, places, ends


def part_of_full(machine, chance):
    """A table of calls back made by chance: None, or some of the pairs of the face."""
    if chance.random() < 0.3:
        return None
    return Table(*[pair for pair in Table.full(machine) if chance.random() < 0.6])


def lengths_of(machine, table):
    """For each turn (frame, store), with None as the frame if nothing is pending, the length of a shortest play.

    Lengths are lowered until all of them agree with one another.
    """
    grounds, places, ends = tables_of(machine, table)
    entries = {name: arguments for name, arguments, _ in machine.face.entries}
    answers = {name: many for name, _, many in machine.face.callouts}
    steps, callouts, inside = {}, {}, {}
    for call in {call for call, _ in places | ends} | {(s, e, v) for s in grounds for e in entries for v in range(entries[e])}:
        steps[call] = machine.enter(*call)
    for call, (response, _, frame) in steps.items():
        if response is not None and response[0] == "out":
            callouts[frame] = response[1]
    resumed = {}
    while len(resumed) < len({place for _, place in places}):
        for _, (frame, store) in places:
            if frame in callouts and (frame, store) not in resumed:
                resumed[(frame, store)] = [machine.resume(store, frame, answer) for answer in range(-1, answers[callouts[frame]])]
                for response, _, further in resumed[(frame, store)]:
                    if response is not None and response[0] == "out":
                        callouts[further] = response[1]

    def calls_at(frame, store):
        return [
            (store, entry, value) for entry in entries
            if frame is None or table is None or (callouts[frame], entry) in table.pairs for value in range(entries[entry])
        ]

    def lower(lengths, key, length):
        if length < lengths.get(key, length + 1):
            lengths[key] = length
            return True
        return False

    # `inside` has the lengths of places (call, frame, store), and of ends (call, None, store), from their calls on.
    for call, (response, store, frame) in steps.items():
        if response is not None and response[0] != "hang":
            inside[(call, frame, store)] = 1
    changed = True
    while changed:
        changed = False
        behind = {}
        for (call, frame, store), length in inside.items():
            if frame is None:
                behind.setdefault(call, []).append((store, length))
        for (call, frame, store), length in list(inside.items()):
            if frame is None:
                continue
            for nested in calls_at(frame, store):
                for after, more in behind.get(nested, ()):
                    changed |= lower(inside, (call, frame, after), length + more)
            for response, after, further in resumed[(frame, store)]:
                if response is not None and response[0] != "hang":
                    changed |= lower(inside, (call, further, after), length + 1)
    turns = {(None, machine.first): 0}
    changed = True
    while changed:
        changed = False
        for (frame, store), length in list(turns.items()):
            nested = calls_at(frame, store)
            for (call, further, after), more in inside.items():
                if call in nested and (further is not None or frame is None):
                    changed |= lower(turns, (further, after), length + more)
    return turns

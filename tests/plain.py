"""Plain searches: all short plays, found move by move, and the tables of point 26, found rule by rule.

Nothing of the program's own searches is used, only `enter`, `resume` and `values_in` of machines.
"""

from reentry.tables import Table

HANG = ("hang",)


class Pair:
    """Two machines as one, with the response None where theirs differ."""

    def __init__(self, one, other):
        self.one, self.other = one, other
        self.face, self.first = one.face, (one.first, other.first)

    def both(self, step, beside):
        if step[0] != beside[0]:
            return None, None, None
        return step[0], (step[1], beside[1]), None if step[2] is None else (step[2], beside[2])

    def enter(self, store, entry, value):
        return self.both(self.one.enter(store[0], entry, value), self.other.enter(store[1], entry, value))

    def resume(self, store, frame, answer):
        return self.both(self.one.resume(store[0], frame[0], answer), self.other.resume(store[1], frame[1], answer))


def moves_at(machine, table, waiting):
    """The moves that are allowed when these (callout, frame) wait; a table that is None allows all."""
    found = []
    callout = waiting[-1][0] if waiting else None
    if waiting:
        answers = [triple[2] for triple in machine.face.callouts if triple[0] == callout][0]
        found += [("answer", value) for value in range(-1, answers)]
    for entry, arguments, _ in machine.face.entries:
        if not waiting or table is None or (callout, entry) in table.pairs:
            found += [("call", entry, value) for value in range(arguments)]
    return found


def made(machine, store, waiting, move):
    """The response, the store, and what waits behind a move."""
    if move[0] == "call":
        response, behind, frame = machine.enter(store, move[1], move[2])
    else:
        response, behind, frame = machine.resume(store, waiting[-1][1], move[1])
        waiting = waiting[:-1]
    if response is not None and response[0] == "out":
        waiting += ((response[1], frame),)
    return response, behind, waiting


class Search:
    """All points of sessions that some play with at most so many moves leads to.

    `turns` has for each turn (store, waiting) the shortest play to it; `ends` for each response the shortest
    play that ends with it. `watch`, if there is one, is called with each turn's play, store and waiting, and
    with each move, its response, and the store and what waits behind it.
    """

    def __init__(self, machine, table, most, watch=None):
        first = (machine.first, ())
        self.turns, self.ends = {first: ()}, {}
        level = [first]
        for length in range(most):
            further = []
            for store, waiting in level:
                play = self.turns[(store, waiting)]
                for move in moves_at(machine, table, waiting):
                    response, behind, left = made(machine, store, waiting, move)
                    if watch is not None:
                        watch(play, store, waiting, move, response, behind, left)
                    self.ends.setdefault(response, play + (move,))
                    if response is None or response == HANG or (behind, left) in self.turns:
                        continue
                    self.turns[(behind, left)] = play + (move,)
                    further.append((behind, left))
            level = further

    def nearest(self, wanted):
        """The shortest play to a turn (store, waiting) for which the function is true; None if there is none."""
        found = [play for (store, waiting), play in self.turns.items() if wanted(store, waiting)]
        return min(found, key=len) if found else None


def tables_of(machine, table, most=None, callouts=None):
    """The grounds, places and ends of point 26 that begin with the first store, as sets, without hurry.

    Rules are applied until nothing comes of them; None if there come to be more than `most` rows. A dict that is
    passed as `callouts` gets the callouts of all frames.
    """
    callouts = {} if callouts is None else callouts
    entries = {name: arguments for name, arguments, _ in machine.face.entries}
    answers = {name: many for name, _, many in machine.face.callouts}
    grounds, places, ends = {machine.first}, set(), set()
    covered, before = set(), None

    def put(call, response, store, frame):
        if response is None or response == HANG:
            return
        if response[0] == "back":
            ends.add((call, store))
        else:
            places.add((call, (frame, store)))
            callouts[frame] = response[1]

    def cover(call):
        if call not in covered:
            covered.add(call)
            response, store, frame = machine.enter(*call)
            put(call, response, store, frame)

    while before != (len(grounds), len(places), len(ends), len(covered)):
        before = (len(grounds), len(places), len(ends), len(covered))
        if most is not None and sum(before[:3]) > most:
            return None
        for store in list(grounds):
            for entry, arguments in entries.items():
                for value in range(arguments):
                    cover((store, entry, value))
        behind = {}
        for call, store in ends:
            behind.setdefault(call, []).append(store)
        for call, (frame, store) in list(places):
            for entry, arguments in entries.items():
                if table is not None and (callouts[frame], entry) not in table.pairs:
                    continue
                for value in range(arguments):
                    cover((store, entry, value))
                    for after in behind.get((store, entry, value), ()):
                        places.add((call, (frame, after)))
            for answer in range(-1, answers[callouts[frame]]):
                put(call, *machine.resume(store, frame, answer))
        for (store, entry, value), after in list(ends):
            if store in grounds:
                grounds.add(after)
    return grounds, places, ends


class Everything:
    """All calls and answers that plays make, with what they lead to, by stores and frames.

    `turns` has all pairs of the frame of the callout that became pending last and a store.
    """

    def __init__(self, machine, table):
        self.machine, self.table, self.callouts = machine, table, {}
        grounds, places, _ = tables_of(machine, table, None, self.callouts)
        self.turns = {place for _, place in places}
        self.calls, self.answers = {}, {}
        for store in grounds:
            self.make_calls(store, [entry for entry, _, _ in machine.face.entries])
        for frame, store in self.turns:
            self.make_calls(store, self.entries_at(frame))
            for answer in self.answers_to(frame):
                self.answers[(frame, store, answer)] = machine.resume(store, frame, answer)

    def entries_at(self, frame):
        callout = self.callouts[frame]
        return [entry for entry, _, _ in self.machine.face.entries if self.table is None or (callout, entry) in self.table.pairs]

    def answers_to(self, frame):
        return range(-1, [many for name, _, many in self.machine.face.callouts if name == self.callouts[frame]][0])

    def values_of(self, entry):
        return range([arguments for name, arguments, _ in self.machine.face.entries if name == entry][0])

    def make_calls(self, store, entries):
        for entry in entries:
            for value in self.values_of(entry):
                self.calls[(store, entry, value)] = self.machine.enter(store, entry, value)

    def responses(self):
        return {step[0] for step in [*self.calls.values(), *self.answers.values()]}


def are_alike(one, other, table):
    return None not in Everything(Pair(one, other), table).responses()


def part_of_full(machine, chance):
    """A table of calls back made by chance: None, or some of the pairs of the face."""
    if chance.random() < 0.3:
        return None
    return Table(*[pair for pair in Table.full(machine) if chance.random() < 0.6])


class Lengths:
    """Lengths of shortest plays, which are lowered until all of them agree with one another.

    `inside` has them for places (call, frame, store) and for ends (call, None, store), from the calls on. `turns`
    has them for turns (frame, store), with None as the frame if nothing is pending, from the beginning on.
    """

    def __init__(self, machine, table):
        self.machine, self.table = machine, table
        self.entries = {name: arguments for name, arguments, _ in machine.face.entries}
        self.answers = {name: many for name, _, many in machine.face.callouts}
        self.callouts, self.resumed, self.inside, self.turns = {}, {}, {}, {}
        grounds, places, ends = tables_of(machine, table)
        calls = {call for call, _ in places | ends} | {call for store in grounds for call in self.calls_at(None, store)}
        for call in calls:
            self.put(call, machine.enter(*call), 1)
        self.run_answers({place for _, place in places})
        while self.lower_inside():
            pass
        self.turns[(None, machine.first)] = 0
        while self.lower_turns():
            pass

    def put(self, call, step, length):
        """A step of a call of this length; whether a length is lowered."""
        response, store, frame = step
        if response is None or response == HANG:
            return False
        if response[0] == "out":
            self.callouts[frame] = response[1]
        return self.lower(self.inside, (call, frame, store), length)

    def lower(self, lengths, key, length):
        if key in lengths and lengths[key] <= length:
            return False
        lengths[key] = length
        return True

    def run_answers(self, places):
        while len(self.resumed) < len(places):
            for frame, store in places:
                if frame in self.callouts and (frame, store) not in self.resumed:
                    many = self.answers[self.callouts[frame]]
                    steps = [self.machine.resume(store, frame, answer) for answer in range(-1, many)]
                    self.resumed[(frame, store)] = steps
                    for response, _, further in steps:
                        if response is not None and response[0] == "out":
                            self.callouts[further] = response[1]

    def calls_at(self, frame, store):
        return [
            (store, entry, value) for entry in self.entries
            if frame is None or self.table is None or (self.callouts[frame], entry) in self.table.pairs
            for value in range(self.entries[entry])
        ]

    def lower_inside(self):
        changed, behind = False, {}
        for (call, frame, store), length in self.inside.items():
            if frame is None:
                behind.setdefault(call, []).append((store, length))
        for (call, frame, store), length in list(self.inside.items()):
            if frame is not None:
                for nested in self.calls_at(frame, store):
                    for after, more in behind.get(nested, ()):
                        changed |= self.lower(self.inside, (call, frame, after), length + more)
                for step in self.resumed[(frame, store)]:
                    changed |= self.put(call, step, length + 1)
        return changed

    def lower_turns(self):
        changed = False
        for (frame, store), length in list(self.turns.items()):
            nested = self.calls_at(frame, store)
            for (call, further, after), more in self.inside.items():
                if call in nested and (further is not None or frame is None):
                    changed |= self.lower(self.turns, (further, after), length + more)
        return changed

    def deep(self, most):
        """For each number of pending callouts up to `most` the length of a shortest play to it; None if there is none."""
        found, made = [0], {}
        for (frame, store), length in self.turns.items():
            if frame is None:
                for call in self.calls_at(None, store):
                    self.lower(made, call, length)
        for _ in range(most):
            level = {}
            for (call, frame, store), length in self.inside.items():
                if call in made and frame is not None:
                    self.lower(level, (frame, store), made[call] + length)
            found.append(min(level.values(), default=None))
            made = {}
            for (frame, store), length in level.items():
                for call in self.calls_at(frame, store):
                    self.lower(made, call, length)
        return found

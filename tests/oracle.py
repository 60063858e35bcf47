"""Machines once more, written in another way: calls are generators that yield their callouts.

A generator is resumed with the answers, so nothing of the program's steps, stores and frames is used.
"""

import random

from reentry import statements
from reentry.errors import InvalidText
from reentry.expressions import (
    Below, Both, Choose, Either, Equal, Minus, Not, Number, Plus, Times, Variable,
)
from reentry.machines import Begun, Guarded, Layered, Watched
from reentry.modules import Entry, Module
from reentry.rules import Rule

MOST_STEPS = 8000


class Failed(Exception):
    pass


class Ended(Exception):
    def __init__(self, result):
        self.result = result


class Hang(Exception):
    pass


class Clock:
    """Counts steps; so many in one response can only be those of a run without end."""

    def __init__(self):
        self.steps = 0

    def tick(self):
        self.steps += 1
        if self.steps > MOST_STEPS:
            raise Hang


class ModuleOracle:
    """`frame` is that of the callout that was made last, `lines` has the lines of all statements that were run."""

    def __init__(self, module, clock):
        self.module = module
        self.clock = clock
        self.shared = {name: value for name, _, value in module.variables}
        self.sizes = {name: size for name, size, _ in module.variables}
        self.frame = None
        self.lines = set()

    def shown(self):
        return tuple(self.shared[name] for name, _, _ in self.module.variables)

    def begin(self, values):
        for (name, _, _), value in zip(self.module.variables, values):
            self.shared[name] = value

    def state(self):
        return self.shown()

    def call(self, name, value):
        entry = [entry for entry in self.module.entries if entry.name == name][0]
        own = {entry.parameter: value, **{slot: 0 for slot, _ in entry.slots}}
        sizes = {**self.sizes, entry.parameter: entry.arguments, **dict(entry.slots)}
        head = f"entry {name} {entry.arguments} {entry.results} {entry.parameter}"
        line = str(self.module).split("\n").index(head) + len(entry.slots) + 1
        try:
            yield from self.body(entry.body, own, sizes, line)
        except Failed:
            return -1
        except Ended as ended:
            return ended.result % entry.results
        return 0

    def body(self, body, own, sizes, line):
        for statement in body:
            yield from self.statement(statement, own, sizes, line)
            line += str(statement).count("\n") + 1

    def value(self, expression, own):
        return expression.evaluate({**self.shared, **own})

    def put(self, name, value, own, sizes):
        (own if name in own else self.shared)[name] = value % sizes[name]

    def statement(self, made, own, sizes, line):
        self.clock.tick()
        self.lines.add(line)
        if isinstance(made, statements.Assign):
            self.put(made.name, self.value(made.expression, own), own, sizes)
        elif isinstance(made, statements.If):
            if self.value(made.test, own):
                yield from self.body(made.body, own, sizes, line + 1)
            else:
                yield from self.body(made.otherwise, own, sizes, line + 2 + amount_of_lines(made.body))
        elif isinstance(made, statements.While):
            while self.value(made.test, own):
                self.clock.tick()
                yield from self.body(made.body, own, sizes, line + 1)
        elif isinstance(made, statements.Call):
            size = [callout for callout in self.module.callouts if callout[0] == made.name][0][1]
            self.frame = (line, tuple(own.values()))
            answer = yield ("out", made.name, self.value(made.expression, own) % size)
            if answer == -1:
                raise Failed
            if made.into is not None:
                self.put(made.into, answer, own, sizes)
        elif isinstance(made, statements.Return):
            raise Ended(self.value(made.expression, own))
        elif isinstance(made, statements.Fail):
            raise Failed
        else:
            try:
                yield from self.body(made.body, own, sizes, line + 1)
            except Failed:
                failed = True
            else:
                failed = False
            if failed:
                yield from self.body(made.handler, own, sizes, line + 2 + amount_of_lines(made.body))


def amount_of_lines(body):
    return sum(str(statement).count("\n") + 1 for statement in body)


class BegunOracle:
    def __init__(self, machine, clock):
        self.inner = oracle_of(machine.machine, clock)
        self.inner.begin(tuple(value for _, _, value in machine.variables))

    def shown(self):
        return self.inner.shown()

    def begin(self, values):
        self.inner.begin(values)

    def state(self):
        return self.inner.state()

    def call(self, name, value):
        return (yield from self.inner.call(name, value))


class GuardedOracle(BegunOracle):
    def __init__(self, machine, clock):
        self.inner = oracle_of(machine.machine, clock)
        self.pending = False

    def state(self):
        return self.inner.state(), self.pending

    def call(self, name, value):
        if self.pending:
            return -1
        run, answer = self.inner.call(name, value), None
        while True:
            try:
                out = run.send(answer)
            except StopIteration as stop:
                return stop.value
            self.pending = True
            answer = yield out
            self.pending = False


class WatchedOracle(BegunOracle):
    def __init__(self, machine, clock):
        self.inner = oracle_of(machine.machine, clock)
        self.rule = machine.rule
        self.now = 0

    def state(self):
        return self.inner.state(), self.now

    def lead(self, event):
        for state, pattern, behind in self.rule.steps:
            if self.now not in self.rule.bad and state == self.now and event[:len(pattern)] == pattern:
                self.now = behind
                return

    def call(self, name, value):
        run, answer = self.inner.call(name, value), None
        self.lead(("call", name, value))
        while True:
            try:
                out = run.send(answer)
            except StopIteration as stop:
                self.lead(("back", name, stop.value))
                return stop.value
            self.lead(out)
            answer = yield out
            self.lead(("answer", out[1], answer))


class LayeredOracle:
    def __init__(self, machine, clock):
        self.upper, self.lower = oracle_of(machine.upper, clock), oracle_of(machine.lower, clock)
        self.many = len(machine.upper.variables)
        self.wires = dict(machine.wires)
        self.clock = clock

    def shown(self):
        return self.upper.shown() + self.lower.shown()

    def begin(self, values):
        self.upper.begin(values[:self.many])
        self.lower.begin(values[self.many:])

    def state(self):
        return self.upper.state(), self.lower.state()

    def call(self, name, value):
        run, answer = self.upper.call(name, value), None
        while True:
            self.clock.tick()
            try:
                out = run.send(answer)
            except StopIteration as stop:
                return stop.value
            if out[1] in self.wires:
                answer = yield from self.lower.call(self.wires[out[1]], out[2])
            else:
                answer = yield out


def oracle_of(machine, clock):
    for kind, oracle in (
        (Module, ModuleOracle), (Begun, BegunOracle), (Guarded, GuardedOracle),
        (Watched, WatchedOracle), (Layered, LayeredOracle),
    ):
        if isinstance(machine, kind):
            return oracle(machine, clock)


class OracleSession:
    """A session of a machine that is run by generators."""

    def __init__(self, machine):
        self.clock = Clock()
        self.oracle = oracle_of(machine, self.clock)
        self.runs = []

    def move(self, run, answer):
        self.clock.steps = 0
        try:
            response = run.send(answer)
        except StopIteration as stop:
            return ("back", stop.value)
        except Hang:
            return ("hang",)
        self.runs.append(run)
        return response

    def call(self, name, value):
        return self.move(self.oracle.call(name, value), None)

    def answer(self, value):
        return self.move(self.runs.pop(), value)


class Maker:
    """Makes modules and other machines by chance, always the same ones from the same seed."""

    def __init__(self, seed):
        self.chance = random.Random(seed)

    def expression(self, names, depth=3):
        chance = self.chance
        if depth == 1 or chance.random() < 0.3:
            return Variable(chance.choice(names)) if chance.random() < 0.7 else Number(chance.randrange(4))
        inside = [self.expression(names, depth - 1) for _ in range(3)]
        kind = chance.choice((Plus, Minus, Times, Equal, Below, Not, Both, Either, Choose))
        return kind(*inside[:{Not: 1, Choose: 3}.get(kind, 2)])

    def body(self, names, callouts, level):
        return tuple(self.statement(names, callouts, level) for _ in range(self.chance.choice((0, 1, 1, 2, 2, 3))))

    def statement(self, names, callouts, level):
        chance = self.chance
        word = chance.choice(("assign", "assign", "call", "call", "call", "if", "while", "attempt", "return", "fail"))
        if level > 3 and word in ("if", "while", "attempt"):
            word = "assign"
        if word == "call" and callouts:
            into = chance.choice(names) if chance.random() < 0.6 else None
            return statements.Call(chance.choice(callouts)[0], self.expression(names), into)
        if word == "if":
            return statements.If(self.expression(names), self.body(names, callouts, level + 1), self.body(names, callouts, level + 1))
        if word == "while":
            return statements.While(self.expression(names), self.body(names, callouts, level + 1))
        if word == "attempt":
            return statements.Attempt(self.body(names, callouts, level + 1), self.body(names, callouts, level + 1))
        if word == "return":
            return statements.Return(self.expression(names))
        if word == "fail":
            return statements.Fail()
        return statements.Assign(chance.choice(names), self.expression(names))

    def module(self, mark="", entries=None, callouts=None):
        """A module whose variables and callouts have this mark in their names."""
        chance = self.chance
        variables = tuple((f"{name}{mark}", size, chance.randrange(size)) for name, size in (("v", 3), ("w", 2))[:chance.randrange(3)])
        if callouts is None:
            callouts = tuple((f"{name}{mark}", chance.randint(1, 3), chance.randint(1, 3)) for name in "cd"[:chance.randint(1, 2)])
        if entries is None:
            entries = [(name, chance.randint(1, 3), chance.randint(1, 3)) for name in "ef"[:chance.randint(1, 2)]]
        made = []
        for name, arguments, results in entries:
            slots = (("s", 2), ("t", 3))[:chance.randrange(3)]
            names = ["p"] + [slot for slot, _ in slots] + [variable for variable, _, _ in variables]
            body = self.body(names, callouts, 1) + self.body(names, callouts, 1)
            made.append(Entry(name, arguments, results, "p", slots=slots, body=body))
        return Module(*made, variables=variables, callouts=callouts)

    def nested_module(self):
        """A module whose calls succeed only if calls back have succeeded, so that its shortest plays are long."""
        chance = self.chance
        lines = [
            "variable l 4 3", "variable k 2 0", "callout c 1 1", "entry go 1 2 p", "  slot s 4", "  assign s l", "  if equal(l, 0)",
            "    assign k not(k)" if chance.random() < 0.3 else "    assign k 1", "    return k", "  assign l minus(l, 1)",
        ]
        for _ in range(chance.randint(2, 4)):
            lines += chance.choice((["  assign k 0"], ["  assign k 0"], ["  assign k not(k)"], []))
            lines += ["  call c 0"]
            lines += chance.choice((
                ["  if not(k)", "    assign l s", "    return 0"], ["  if not(k)", "    assign l s", "    assign k 0", "    fail"],
                ["  if k", "    assign l s", "    return 0"], [],
            ))
        lines += ["  assign l s", f"  assign k {chance.choice(('1', '1', '1', 'not(k)', 'k'))}", "  return k"]
        if chance.random() < 0.4:
            lines += ["entry on 1 2 p"] + chance.choice((
                ["  if equal(l, 2)", "    assign k 1"], ["  assign k not(k)"], ["  if k", "    assign l 3"],
                ["  call c 0", "  if k", "    assign l plus(l, 1)"],
            ))
        return Module.read("\n".join(lines))

    def rule(self, machine):
        chance = self.chance
        names = [entry[0] for entry in machine.face.entries], [callout[0] for callout in machine.face.callouts] or ["c"]
        steps = []
        for _ in range(8):
            word, kind = chance.choice((("call", 0), ("back", 0), ("out", 1), ("answer", 1)))
            event = (word, chance.choice(names[kind])) + ((chance.randint(-1, 2),) if chance.random() < 0.5 else ())
            steps.append((chance.randrange(4), event, chance.randrange(4)))
        return Rule(tuple(steps), (3,) if chance.random() < 0.5 else ())

    def layered(self, upper, mark, layers):
        """A layered machine with this upper one, and a lower one that fits."""
        chance = self.chance
        chosen = [callout for callout in upper.face.callouts if chance.random() < 0.8]
        entries = [(f"g{index}", callout[1], callout[2]) for index, callout in enumerate(chosen)] or [("g", 1, 1)]
        callouts = ((f"x{mark}", chance.randint(1, 2), chance.randint(1, 2)),)[:5 - len(upper.face.callouts)]
        lower = self.wrapped(self.module(mark, entries, callouts), layers - 1)
        return Layered(upper, lower, tuple((callout[0], entry[0]) for callout, entry in zip(chosen, entries)))

    def wrapped(self, machine, layers):
        """The machine with at most so many layers around it."""
        for _ in range(self.chance.randint(0, layers)):
            kind = self.chance.choice((Begun, Guarded, Watched))
            if kind is Begun:
                machine = Begun(machine, tuple(self.chance.randrange(size) for _, size, _ in machine.variables))
            elif kind is Guarded:
                machine = Guarded(machine)
            else:
                machine = Watched(machine, self.rule(machine))
        return machine

    def machine(self):
        machine = self.wrapped(self.module("1"), 1)
        for index in range(self.chance.randint(0, 2)):
            machine = self.layered(machine, str(index + 2), 2 - index)
        return machine

    def others(self, machine):
        """Machines with the same face."""
        chance = self.chance
        found = [machine, Guarded(machine), Watched(machine, self.rule(machine))]
        if machine.variables:
            found.append(Begun(machine, tuple(chance.randrange(size) for _, size, _ in machine.variables)))
        if isinstance(machine, Module):
            lines = list(machine.lines)
            for _ in range(6):
                index = chance.randrange(len(lines))
                for old, new in (("plus", "minus"), (" 1", " 2"), ("below", "equal"), ("fail", "return 0"), (" 0", " 1"), ("not(k)", "k")):
                    if lines[index].startswith(" ") and old in lines[index]:
                        try:
                            other = Module.read("\n".join(lines[:index] + [lines[index].replace(old, new)] + lines[index + 1:]))
                        except InvalidText:
                            continue
                        found.append(other)
        return found

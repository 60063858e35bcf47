import random
import unittest

from reentry.errors import NothingToUndo
from reentry.expressions import Below, Minus, Number, Plus, Times, Variable
from reentry.machines import Guarded, Layered
from reentry.modules import Entry, Module
from reentry.sessions import Session
from reentry.statements import Assign, Attempt, Call, Fail, If, Return, While
from reentry.tables import Table
from tests.oracle import Maker, OracleSession
from tests.plain import part_of_full

HANG = ("hang",)


def read(*lines):
    return Module.read("\n".join(lines))


class TestSessionsAgainstOracle(unittest.TestCase):
    """Sessions of machines that are made by chance, against statements that are run one by one by generators."""

    def play(self, machine, table, chance, most):
        """Play by chance; the numbers of moves of some kinds."""
        session, oracle = Session(machine, table), OracleSession(machine)
        frames, log, seen = [], [], {"moves": 0, "nested": 0, "hang": 0, "deepest": 0}
        while len(log) < most and not session.is_over:
            choices = list(session.choices())
            answers = [move for move in choices if move[0] == "answer"]
            move = chance.choice(answers if answers and chance.random() < 0.4 else choices)
            response = session(move)
            if move[0] == "call":
                seen["nested"] += len(frames) > 0
                expected = oracle.call(move[1], move[2])
            else:
                frames.pop()
                expected = oracle.answer(move[1])
            self.assertEqual(response, expected)
            log.append((move, response))
            seen["moves"] += 1
            seen["hang"] += response == HANG
            if response[0] == "out":
                frames.append((response[1], getattr(oracle.oracle, "frame", None)))
            self.assertEqual(session.pending, tuple(name for name, _ in frames))
            if isinstance(machine, Module):
                self.assertEqual(session.frames, tuple(frame for _, frame in frames))
                if response != HANG:
                    self.assertEqual(session.store, oracle.oracle.shown())
            if response != HANG:
                self.assertEqual(session.shown, oracle.oracle.shown())
            seen["deepest"] = max(seen["deepest"], len(frames))
        self.assertEqual(session.log, tuple(log))
        return seen

    def check(self, seeds, make, most):
        total = {}
        for seed in seeds:
            maker = Maker(seed)
            machine = make(maker)
            table = part_of_full(machine, maker.chance)
            with self.subTest(seed=seed):
                for _ in range(3):
                    for word, many in self.play(machine, table, maker.chance, most).items():
                        total[word] = total.get(word, 0) + many
        for word in total:
            self.assertGreater(total[word], 30, word)

    def test_modules(self):
        self.check(range(5000, 5200), lambda maker: maker.module(), 60)

    def test_machines(self):
        self.check(range(6000, 6250), lambda maker: maker.machine(), 60)

    def test_moves_that_are_taken_back(self):
        for seed in range(7000, 7040):
            maker = Maker(seed)
            machine = maker.machine()
            session, chance = Session(machine), random.Random(seed)
            for _ in range(60):
                if session.is_over or chance.random() < 0.4:
                    try:
                        session.undo()
                    except NothingToUndo:
                        self.assertEqual(len(session), 0)
                else:
                    session(chance.choice(list(session.choices())))
                again = Session(machine)
                for move, response in session.log:
                    self.assertEqual(again(move), response)
                self.assertEqual((again.store, again.frames), (session.store, session.frames))


class TestValues(unittest.TestCase):
    def test_values_modulo_sizes(self):
        large = Number(999)
        for _ in range(3):
            large = Times(large, large)
        self.assertEqual(large.evaluate({}), 999 ** 8)
        n, k = Variable("n"), Variable("k")
        for expression in (large, Minus(Number(0), large), Minus(k, Number(999)), Times(Minus(k, n), large), Plus(k, n)):
            for size in (1, 2, 7, 39, 40):
                module = Module(
                    Entry("go", 5, size, "k", slots=(("s", 3),), body=(
                        Assign("n", expression), Call("c", expression, "k"), Assign("s", Minus(k, Number(7))), Call("c", Variable("s")),
                        Return(Plus(expression, Number(1))),
                    )),
                    variables=(("n", size, size - 1),), callouts=(("c", size, 40),),
                )
                for value in range(5):
                    session = Session(module)
                    first = expression.evaluate({"n": size - 1, "k": value}) % size
                    self.assertEqual(session.call("go", value), ("out", "c", expression.evaluate({"n": first, "k": value}) % size))
                    self.assertEqual((session.shown, session.frames), ((first,), ((5, (value, 0)),)))
                    answer = 11 + value
                    taken = answer % 5
                    slot = (taken - 7) % 3
                    self.assertEqual(session.answer(answer), ("out", "c", slot % size))
                    self.assertEqual(session.frames, ((7, (taken, slot)),))
                    result = (expression.evaluate({"n": first, "k": taken}) + 1) % size
                    self.assertEqual(session.answer(0), ("back", result))

    def test_sizes_of_answers(self):
        made = read("variable n 3 2", "callout c 1 40", "entry go 1 3 z", "  call c 0 into n", "  return n")
        for answer in range(-1, 40):
            session = Session(made)
            session.call("go")
            self.assertEqual(session.answer(answer), ("back", -1 if answer == -1 else answer % 3))
            self.assertEqual(session.shown, (2 if answer == -1 else answer % 3,))


class TestLoops(unittest.TestCase):
    COUNT = (
        "variable a 40 0", "variable b 40 0", "callout c 1 2", "entry go 2 2 k", "  while 1", "    assign a plus(a, 1)",
        "    if not(a)", "      assign b plus(b, 1)", "      if both(not(b), k)", "        call c 0", "        return 1",
    )

    def test_more_than_a_thousand_rounds(self):
        session = Session(read(*self.COUNT))
        self.assertEqual(session.call("go", 1), ("out", "c", 0))
        self.assertEqual(session.call("go", 1), ("out", "c", 0))
        self.assertEqual((session.answer(0), session.answer(-1)), (("back", 1), ("back", -1)))
        self.assertEqual(session.shown, (0, 0))
        self.assertEqual((session.call("go", 0), session.is_over, session.shown), (HANG, True, (0, 0)))

    def test_no_end_behind_an_answer(self):
        made = read(
            "variable n 3 0", "callout c 1 3", "entry go 1 1 z", "  slot s 3", "  assign n 1", "  call c 0 into s", "  while s",
            "    assign n plus(n, 1)", "    assign s choose(equal(s, 1), 2, choose(n, 1, 0))", "  return n",
        )
        for answer, response in ((-1, ("back", -1)), (0, ("back", 0)), (1, ("back", 0)), (2, ("back", 0))):
            session = Session(made)
            session.call("go")
            self.assertEqual(session.answer(answer), response)
        endless = read("variable n 3 0", "callout c 1 3", "entry go 1 1 z", "  slot s 3", "  call c 0 into s", "  while s", "    assign n plus(n, s)")
        for answer in (1, 2):
            session = Session(endless)
            session.call("go")
            session.call("go")
            self.assertEqual(session.answer(0), ("back", 0))
            self.assertEqual((session.answer(answer), session.pending, session.shown), (HANG, (), (0,)))

    def test_no_end_in_a_call_back(self):
        made = read(
            "variable n 2 0", "callout c 1 1", "entry go 1 1 z", "  assign n 1", "  call c 0", "  assign n 0", "entry get 1 2 z",
            "  while n", "  return n",
        )
        session = Session(made)
        self.assertEqual((session.call("get"), session.call("go"), session.call("get")), (("back", 0), ("out", "c", 0), HANG))
        self.assertEqual((session.pending, session.frames, session.is_over), (("c",), ((4, (0,)),), True))
        session.undo()
        self.assertEqual((session.answer(0), session.call("get")), (("back", 0), ("back", 0)))

    def test_150_calls_back(self):
        made = read(
            "variable n 40 0", "callout c 40 2", "entry go 1 40 z", "  slot s 40", "  assign n plus(n, 1)", "  assign s n",
            "  call c n", "  return s",
        )
        for machine in (made, Layered(read("callout u 1 40", "entry go 1 40 z", "  slot s 40", "  call u 0 into s", "  return s"), made, (("u", "go"),))):
            session = Session(machine)
            for index in range(1, 151):
                self.assertEqual(session.call("go"), ("out", "c", index % 40))
            self.assertEqual(len(set(session.frames)), 40)
            for index in range(150, 0, -1):
                self.assertEqual(session.answer(0), ("back", index % 40))
        guarded = Session(Guarded(made))
        guarded.call("go")
        for _ in range(150):
            self.assertEqual(guarded.call("go"), ("back", -1))
        self.assertEqual(guarded.answer(1), ("back", 1))


class TestShared(unittest.TestCase):
    """The same parts put into several places."""

    def test_statements(self):
        n, k = Variable("n"), Variable("k")
        call = Call("c", Plus(n, k), "n")
        risky = Attempt((call, If(k, (Fail(),), (call,))), (call, Assign("k", Minus(k, Number(1)))))
        body = (risky, While(Below(n, Number(2)), (risky, call)), call)
        entries = (Entry("go", 3, 3, "k", body=body), Entry("on", 3, 3, "k", body=(Assign("n", k),) + body + body))
        module = Module(*entries, variables=(("n", 3, 0),), callouts=(("c", 3, 3),))
        self.assertEqual(Module.read(str(module)), module)
        self.assertEqual(Module(*reversed(entries), variables=module.variables, callouts=module.callouts).entries, entries[::-1])
        lines, hangs = set(), 0
        for seed in range(150):
            chance = random.Random(seed)
            session, oracle, frames = Session(module), OracleSession(module), []
            while len(session) < 60 and not session.is_over:
                choices = list(session.choices())
                answers = [move for move in choices if move[0] == "answer"]
                move = chance.choice(answers if answers and chance.random() < 0.8 else choices)
                if move[0] == "call":
                    self.assertEqual(session(move), oracle.call(*move[1:]))
                else:
                    frames.pop()
                    self.assertEqual(session(move), oracle.answer(move[1]))
                if session.log[-1][1][0] == "out":
                    frames.append(oracle.oracle.frame)
                self.assertEqual(session.frames, tuple(frames))
                lines |= {frame[0] for frame in frames}
            hangs += session.is_over
        self.assertEqual(lines, {index for index, line in enumerate(module.lines) if " call c" in line})

    def test_entries_machines_and_tables(self):
        entry = Entry("go", 2, 2, "k", body=(Call("c", Variable("k")), Return(Variable("k"))))
        one, two = Module(entry, callouts=(("c", 2, 1),)), Module(Entry("a", 1, 1, "z"), entry, callouts=(("b", 1, 1), ("c", 1, 1)))
        table = Table(("c", "go"))
        first, second = Session(one, table), Session(two, table)
        self.assertEqual([first.call("go", 1), first.call("go", 1)], [("out", "c", 1)] * 2)
        self.assertEqual([second.call("go", 1), second.call("go", 1)], [("out", "c", 0)] * 2)
        self.assertEqual((first.frames[1], second.frames[1]), ((2, (1,)), (4, (1,))))
        both = Layered(one, Module(Entry("on", 2, 1, "k", body=entry.body), callouts=(("c", 2, 1),)), (("c", "on"),))
        self.assertEqual([Session(made).call("go", 1) for made in (both, Guarded(both), both)], [("out", "c", 1)] * 3)

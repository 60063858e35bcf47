import random
import unittest

from reentry import errors
from reentry.machines import Begun, Guarded, Layered, Machine, Watched
from reentry.modules import Module
from reentry.rules import Rule
from reentry.sessions import Session, responses_of
from reentry.tables import Table
from tests.values import any_values, check_error, values_other_than

COUNTER = Module.read(
    "variable n 4 0\ncallout changed 4 2\nentry add 2 4 k\n  if below(n, 3)\n    assign n plus(n, k)\n"
    "    call changed n\n  return n\nentry get 1 4 z\n  return n"
)
TWO = Module.read(
    "variable n 9 0\ncallout one 1 1\ncallout two 2 3\nentry a 2 9 k\n  slot y 3\n  call two k into y\n  assign n plus(n, y)\n"
    "  call one 0\n  return n\nentry b 3 9 k\n  call one 0\n  assign n k\n  return k\nentry spin 1 1 z\n  assign n 8\n  while 1"
)
LATE = Module.read("variable n 2 0\ncallout c 1 1\nentry go 1 1 z\n  assign n 1\n  call c 0\n  while 1")
HANG = ("hang",)
# What is no move of TWO at any turn.
NO_MOVES = any_values() + [
    ("call",), ("call", "a"), ("call", "a", 2), ("call", "a", -1), ("call", "a", True), ("call", "a", "0"), ("call", "c", 0),
    ("call", "one", 0), ("call", "a", 0, 0), ["call", "a", 0], ("Call", "a", 0), ("call", "A", 0), ("call", ["a"], 0),
    ("call", None, 0), ("answer",), ("answer", True), ("answer", False), ("answer", "0"), ("answer", None), ("answer", -2),
    ("answer", 0, 0), ["answer", 0], ("fail",), ("out", "one", 0), ("back", 0), ("hang",), ("answer", -10 ** 59), "answer",
    ("answer", (0,)), (b"answer", 0), ("call", "a", (0,)), ("call", 0, "a"),
]


def state(session):
    """Everything that a session shows."""
    return (
        session.pending, session.frames, session.store, session.shown, session.log, session.is_over, len(session),
        list(session.choices()),
    )


class TestSession(unittest.TestCase):
    def test_at_the_beginning(self):
        table = Table(("changed", "get"))
        for made in (Session(COUNTER), Session(COUNTER, None), Session(during=None, machine=COUNTER)):
            self.assertIs(made.machine, COUNTER)
            self.assertEqual(made.during, Table.full(COUNTER))
            self.assertEqual(state(made)[:7], ((), (), (0,), (0,), (), False, 0))
        for made in (Session(COUNTER, table), Session(during=table, machine=COUNTER)):
            self.assertIs(made.during, table)
        self.assertFalse(Session(COUNTER))
        one = Session(COUNTER)
        self.assertIs(one == one, True)
        self.assertIs(one == Session(COUNTER), False)

    def test_ways_to_make_a_move(self):
        made = Session(COUNTER)
        self.assertEqual(made.call("add", 1), ("out", "changed", 1))
        self.assertEqual(made.call(value=1, entry="add"), ("out", "changed", 2))
        self.assertEqual(made.call("add"), ("out", "changed", 2))
        self.assertEqual(made(("call", "get", 0)), ("back", 2))
        self.assertEqual((made.pending, made.shown), (("changed",) * 3, (2,)))
        self.assertEqual(made.frames, ((5, (1,)), (5, (1,)), (5, (0,))))
        self.assertEqual(made.answer(1), ("back", 2))
        self.assertEqual(made(move=("answer", 0)), ("back", 2))
        self.assertEqual(made.fail(), ("back", -1))
        self.assertEqual(made.call("get"), ("back", 2))
        self.assertEqual((made.pending, made.frames, made.store, len(made)), ((), (), (2,), 8))
        self.assertEqual(made.log, (
            (("call", "add", 1), ("out", "changed", 1)), (("call", "add", 1), ("out", "changed", 2)),
            (("call", "add", 0), ("out", "changed", 2)), (("call", "get", 0), ("back", 2)), (("answer", 1), ("back", 2)),
            (("answer", 0), ("back", 2)), (("answer", -1), ("back", -1)), (("call", "get", 0), ("back", 2)),
        ))
        self.assertTrue(made)
        for value in (made.pending, made.frames, made.store, made.shown, made.log):
            self.assertIs(type(value), tuple)

    def test_pending_callouts(self):
        made = Session(TWO)
        made.call("a", 1)
        made.call("b", 2)
        made.call("a", 0)
        self.assertEqual(made.pending, ("two", "one", "two"))
        self.assertEqual(made.frames, ((5, (1, 0)), (10, (2,)), (5, (0, 0))))
        self.assertEqual(made.answer(2), ("out", "one", 0))
        self.assertEqual((made.pending, made.frames[2]), (("two", "one", "one"), (7, (0, 2))))
        self.assertEqual((made.answer(0), made.pending), (("back", 2), ("two", "one")))
        self.assertEqual((made.fail(), made.pending), (("back", -1), ("two",)))
        self.assertEqual((made.answer(1), made.answer(0), made.shown), (("out", "one", 0), ("back", 3), (3,)))

    def test_hangs(self):
        made = Session(TWO)
        made.call("a", 1)
        self.assertEqual(made.call("spin"), HANG)
        self.assertEqual(state(made), (
            ("two",), ((5, (1, 0)),), (0,), (0,), ((("call", "a", 1), ("out", "two", 1)), (("call", "spin", 0), HANG)), True, 2, [],
        ))
        late = Session(LATE)
        late.call("go")
        late.call("go")
        self.assertEqual(late.answer(0), HANG)
        self.assertEqual((late.pending, late.frames, late.is_over, late.shown), (("c",), ((4, (0,)),), True, (1,)))

    def test_nothing_is_possible_behind_a_hang(self):
        made = Session(TWO)
        made.call("a")
        made.call("spin")
        before = state(made)
        for value in NO_MOVES + [("call", "a", 0), ("answer", 0), ("call", "spin", 0)]:
            check_error(self, errors.Over, {}, made, value)
            check_error(self, errors.Over, {}, made.answer, value)
            check_error(self, errors.Over, {}, made.call, value)
            check_error(self, errors.Over, {}, made.call, "a", value)
        check_error(self, errors.Over, {}, made.fail)
        self.assertEqual(state(made), before)

    def turns(self):
        """Sessions of TWO at turns of each kind, with the name of the callout that became pending last."""
        for table in (None, Table(), Table(("two", "a"), ("one", "b"))):
            for moves, callout in (
                ((), None), ((("call", "b", 1), ("answer", -1)), None), ((("call", "b", 1),), "one"),
                ((("call", "a", 1),), "two"), ((("call", "a", 1), ("answer", 1)), "one"),
            ):
                session = Session(TWO, table)
                for move in moves:
                    session(move)
                yield session, callout, table

    def test_wrong_moves_at_each_turn(self):
        for session, callout, table in self.turns():
            before = state(session)
            wrong = list(NO_MOVES)
            if callout is not None:
                many = {"one": 1, "two": 3}[callout]
                wrong += [("answer", many), ("answer", many + 1), ("answer", 10 ** 59)]
            for value in wrong:
                check_error(self, errors.InvalidMove, {"value": value}, session, value)
                check_error(self, errors.InvalidMove, {"value": value}, session, move=value)
            for value in values_other_than(lambda v: type(v) is int) + [-2, -(10 ** 59)]:
                self.wrong_tuple(("answer", value), session.answer, value)
            for value in values_other_than(lambda v: type(v) is int and 0 <= v < 2) + [2, -1]:
                self.wrong_tuple(("call", "a", value), session.call, "a", value)
                self.wrong_tuple(("call", "a", value), session.call, value=value, entry="a")
            for value in values_other_than(lambda v: isinstance(v, str) and v in ("a", "b", "spin")) + ["one", "two", "c"]:
                self.wrong_tuple(("call", value, 0), session.call, value)
            self.assertEqual(state(session), before)

    def wrong_tuple(self, move, action, *args, **named):
        """The error has a tuple with these very elements."""
        with self.assertRaises(errors.InvalidMove) as caught:
            action(*args, **named)
        self.assertIs(type(caught.exception), errors.InvalidMove)
        value = caught.exception.value
        self.assertIs(type(value), tuple)
        self.assertEqual(len(value), len(move))
        for part, expected in zip(value, move):
            self.assertTrue(part is expected or (type(part) is type(expected) and part == expected))

    def test_moves_that_are_not_allowed(self):
        for session, callout, table in self.turns():
            before = state(session)
            if callout is None:
                for value in (-1, 0, 1, 2, 3, 10 ** 59):
                    move = ("answer", value)
                    check_error(self, errors.NotAllowed, {"move": move}, session, move)
                    with self.assertRaises(errors.NotAllowed) as caught:
                        session.answer(value)
                    self.assertEqual(caught.exception.move, ("answer", value))
                with self.assertRaises(errors.NotAllowed) as caught:
                    session.fail()
                self.assertEqual(caught.exception.move, ("answer", -1))
                for move in session.choices():
                    self.assertIn(session.twin()(move)[0], ("out", "back", "hang"))
            else:
                for move in [("call", "a", 0), ("call", "a", 1), ("call", "b", 2), ("call", "spin", 0)]:
                    if table is None or table.allows(callout, move[1]):
                        session.twin()(move)
                    else:
                        check_error(self, errors.NotAllowed, {"move": move}, session, move)
                        with self.assertRaises(errors.NotAllowed) as caught:
                            session.call(move[1], move[2])
                        self.assertEqual(caught.exception.move, move)
            self.assertEqual(state(session), before)

    def test_choices_at_each_turn(self):
        calls = [("call", "a", 0), ("call", "a", 1), ("call", "b", 0), ("call", "b", 1), ("call", "b", 2), ("call", "spin", 0)]
        for session, callout, table in self.turns():
            found = list(session.choices())
            answers = {None: [], "one": [("answer", -1), ("answer", 0)], "two": [("answer", value) for value in range(-1, 3)]}
            allowed = [move for move in calls if callout is None or table is None or (callout, move[1]) in table.pairs]
            self.assertEqual(found, answers[callout] + allowed)
            self.assertEqual(found, sorted(found))
            self.assertTrue(hasattr(session.choices(), "send"))

    def test_undo(self):
        for machine in machines():
            for seed in range(5):
                session, chance = Session(machine), random.Random(seed)
                states = [state(session)]
                while len(session) < 30 and not session.is_over:
                    session(chance.choice(list(session.choices())))
                    states.append(state(session))
                while len(states) > 1:
                    self.assertEqual(state(session), states.pop())
                    self.assertIsNone(session.undo())
                self.assertEqual(state(session), states[0])
                check_error(self, errors.NothingToUndo, {}, session.undo)
                self.assertEqual(state(session), states[0])

    def test_undo_behind_a_hang(self):
        session = Session(LATE)
        check_error(self, errors.NothingToUndo, {}, session.undo)
        session.call("go")
        before = state(session)
        session.fail()
        session.call("go")
        session.undo()
        session.undo()
        session.answer(0)
        self.assertTrue(session.is_over)
        self.assertIsNone(session.undo())
        self.assertEqual(state(session), before)
        self.assertEqual(session.fail(), ("back", -1))
        made = Session(TWO)
        made.call("spin")
        made.undo()
        self.assertEqual((made.call("b", 2), len(made)), (("out", "one", 0), 1))

    def test_twins(self):
        for machine in machines():
            session, chance = Session(machine, Table.full(machine) - Table()), random.Random(4)
            for _ in range(25):
                twin = session.twin()
                self.assertEqual(state(twin), state(session))
                self.assertIs(twin.machine, machine)
                self.assertIs(twin.during, session.during)
                self.assertIsNot(twin, session)
                before = state(session)
                while len(twin) < len(session) + 4 and not twin.is_over:
                    twin(chance.choice(list(twin.choices())))
                self.assertEqual(state(session), before)
                later = state(twin)
                if session.is_over:
                    break
                session(chance.choice(list(session.choices())))
                self.assertEqual(state(twin), later)
                while len(twin):
                    twin.undo()
                self.assertEqual(state(twin), state(Session(machine)))

    def test_what_was_shown_does_not_change(self):
        session = Session(TWO)
        session.call("a")
        log, pending, frames = session.log, session.pending, session.frames
        session.call("b")
        self.assertEqual((len(log), pending, frames), (1, ("two",), ((5, (0, 0)),)))

    def test_wrong_arguments(self):
        other = Table(("changed", "add"), ("one", "a"), ("two", "get"))
        for value in values_other_than(lambda v: isinstance(v, Machine)) + [Module, Session(TWO), Table()]:
            for during in (None, 5, other):
                check_error(self, errors.NotAMachine, {"value": value}, Session, value, during)
                check_error(self, errors.NotAMachine, {"value": value}, Session, during=during, machine=value)
        for value in values_other_than(lambda v: v is None or isinstance(v, Table)) + [(("one", "a"),), TWO, Table]:
            check_error(self, errors.NotATable, {"value": value}, Session, TWO, value)
            check_error(self, errors.NotATable, {"value": value}, Session, during=value, machine=TWO)
        for pairs, first in (
            ((("two", "c"), ("one", "a")), ("two", "c")), ((("a", "one"), ("two", "a")), ("a", "one")),
            ((("two", "two"), ("three", "b"), ("one", "b")), ("three", "b")), ((("one", "one"), ("one", "b")), ("one", "one")),
        ):
            check_error(self, errors.UnknownPair, {"pair": first}, Session, TWO, Table(*pairs))
        check_error(self, errors.UnknownPair, {"pair": ("changed", "add")}, Session, TWO, other)
        check_error(self, errors.UnknownPair, {"pair": ("one", "a")}, Session, COUNTER, other)
        both = Layered(Module.read("callout store 2 4\nentry twice 1 4 z\n  call store 1"), COUNTER, (("store", "add"),))
        check_error(self, errors.UnknownPair, {"pair": ("changed", "add")}, Session, both, Table(("changed", "add"), ("store", "twice")))
        self.assertEqual(Session(both, Table(("changed", "twice"))).call("twice"), ("out", "changed", 1))

    def test_150_calls_back_one_in_another(self):
        for machine in (COUNTER, Begun(COUNTER, (0,)), Watched(COUNTER, Rule((), ()))):
            session = Session(machine)
            for _ in range(150):
                self.assertEqual(session.call("add", 0), ("out", "changed", 0))
            self.assertEqual((session.pending, len(session.frames)), (("changed",) * 150, 150))
            self.assertEqual(session.call("add", 1), ("out", "changed", 1))
            for index in range(151):
                self.assertEqual(session.answer(index % 2), ("back", 1))
            self.assertEqual((session.pending, len(session)), ((), 302))

    def test_many_moves(self):
        session = Session(COUNTER)
        for _ in range(3000):
            session.call("add")
        for _ in range(3000):
            session.undo()
        self.assertEqual(state(session), state(Session(COUNTER)))


def machines():
    rule = Rule(((0, ("out", "one"), 1), (1, ("call", "b"), 2), (2, ("answer", "two", 0), 3)), (3,))
    lower = Module.read("variable m 3 0\ncallout deep 1 2\nentry e 1 1 z\n  assign m plus(m, 1)\n  if equal(m, 2)\n    call deep 0")
    both = Layered(TWO, lower, (("one", "e"),))
    return [TWO, COUNTER, LATE, Begun(TWO, (5,)), Guarded(TWO), Watched(TWO, rule), both, Guarded(both), Watched(Begun(both, (2, 1)), rule)]


class TestResponsesOf(unittest.TestCase):
    def test_plays(self):
        moves = (("call", "a", 1), ("call", "b", 2), ("answer", 0), ("answer", 2), ("answer", 0), ("call", "spin", 0))
        responses = (("out", "two", 1), ("out", "one", 0), ("back", 2), ("out", "one", 0), ("back", 4), HANG)
        for many in range(len(moves) + 1):
            self.assertEqual(responses_of(TWO, moves[:many]), responses[:many])
            self.assertEqual(responses_of(during=Table(("two", "b")), moves=moves[:many], machine=TWO), responses[:many])
        self.assertEqual(responses_of(Guarded(TWO), moves[:2]), (("out", "two", 1), ("back", -1)))

    def test_many_moves(self):
        moves = (("call", "add", 0), ("answer", 0)) * 2000
        self.assertEqual(responses_of(COUNTER, moves), (("out", "changed", 0), ("back", 0)) * 2000)

    def test_wrong_moves_at_any_index(self):
        right = [("call", "a", 1), ("call", "b", 2), ("answer", 0), ("answer", 2)]
        for index in range(5):
            wrong = NO_MOVES + ([("answer", 0)] if index == 0 else [("answer", 3)])
            for value in wrong:
                moves = tuple(right[:index] + [value] + right[index:] + [5])
                check_error(self, errors.InvalidMoves, {"index": index}, responses_of, TWO, moves)
        check_error(self, errors.InvalidMoves, {"index": 1}, responses_of, TWO, tuple(right), Table())
        check_error(self, errors.InvalidMoves, {"index": 1}, responses_of, TWO, tuple(right), Table(("two", "a"), ("one", "b")))
        check_error(self, errors.InvalidMoves, {"index": 3}, responses_of, TWO, (("call", "b", 0), ("answer", 0), ("call", "b", 0), ("answer", 1)))

    def test_moves_behind_a_hang(self):
        for more in ((("call", "a", 0),), (("answer", 0),), (5,), (None, None)):
            check_error(self, errors.InvalidMoves, {"index": 1}, responses_of, TWO, (("call", "spin", 0),) + more)
            moves = (("call", "go", 0), ("call", "go", 0), ("answer", 0)) + more
            check_error(self, errors.InvalidMoves, {"index": 3}, responses_of, LATE, moves)

    def test_what_is_no_tuple(self):
        for value in values_other_than(lambda v: isinstance(v, tuple)) + [[("call", "a", 0)], iter(())]:
            check_error(self, errors.InvalidMoves, {"index": None}, responses_of, TWO, value)
            check_error(self, errors.InvalidMoves, {"index": None}, responses_of, during=Table(), machine=TWO, moves=value)

    def test_the_first_error(self):
        for moves in (5, (5,), (("call", "a", 0),)):
            check_error(self, errors.NotAMachine, {"value": 7}, responses_of, 7, moves, 8)
            check_error(self, errors.NotATable, {"value": 8}, responses_of, TWO, moves, 8)
            check_error(self, errors.UnknownPair, {"pair": ("one", "c")}, responses_of, TWO, moves, Table(("one", "c")))

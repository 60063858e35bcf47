import itertools
import unittest

from reentry import errors
from reentry.expressions import Variable
from reentry.machines import Begun, Guarded, Layered, Watched
from reentry.modules import Entry, Module
from reentry.plays import Play
from reentry.rules import Rule
from reentry.sessions import Session, responses_of
from reentry.statements import Call
from reentry.tables import Table
from reentry.waiting import can_wait, is_quiet, obstacle, put_off
from tests.oracle import Maker
from tests.plain import HANG, Everything, Search, moves_at, part_of_full, tables_of
from tests.test_likeness import read
from tests.values import check_error, values_other_than

GO = ("call", "go", 0)
SET = read("variable n 4 0", "callout ask 1 1", "entry go 1 2 z", "  call ask 0", "  return 1", "entry set 4 4 k", "  assign n k", "  return k", "entry get 1 4 z", "  return n")


def table_for(machine, entries):
    return Table(*[(callout, entry) for callout, _, _ in machine.face.callouts for entry in entries])


def is_obstacle(machine, store, frame, call, answer):
    """Whether the conditions of point 23 do not hold for a call and an answer at a turn, as they stand there."""
    called, behind_call, _ = machine.enter(store, *call[1:])
    answered, behind_answer, further = machine.resume(store, frame, answer[1])
    if called[0] != "back" or answered == HANG:
        return True
    answered_later, both, further_later = machine.resume(behind_call, frame, answer[1])
    called_later, both_too, _ = machine.enter(behind_answer, *call[1:])
    if answered_later == HANG or called_later[0] != "back":
        return True
    return (called, answered, both, further) != (called_later, answered_later, both_too, further_later)


def obstacles_at(machine, entries, store, waiting):
    calls = [move for move in moves_at(machine, table_for(machine, entries), waiting) if move[0] == "call"]
    answers = [move for move in moves_at(machine, Table(), waiting) if move[0] == "answer"]
    return [(call, answer) for call in calls for answer in answers if is_obstacle(machine, store, waiting[-1][1], call, answer)]


def module_with_quiet_entries(maker):
    """A module in which one entry alone calls out."""
    names, callouts = ["p", "v", "w"], (("c", 1, 2),)
    entries = [Entry("e", 1, 2, "p", body=(maker.statement(names, (), 1), Call("c", Variable("v"), "p"), *maker.body(names, callouts, 2)))]
    for name in "fg":
        entries.append(Entry(name, maker.chance.randint(1, 2), 2, "p", body=maker.body(names, (), 3)))
    return Module(*entries, variables=(("v", 2, 0), ("w", 3, 1)), callouts=callouts)


def machines(seeds, most=500):
    """Small machines that were made by chance, each with its maker."""
    for seed in seeds:
        maker = Maker(seed)
        makers = maker.module, maker.machine, maker.nested_module, lambda: module_with_quiet_entries(maker)
        machine = makers[seed % 4]()
        if seed % 5 == 0:
            machine = (Guarded(machine), Watched(machine, maker.rule(machine)))[seed % 2]
        if tables_of(machine, None, most) is not None:
            yield seed, maker, machine


def parts_of(entries):
    return [part for many in range(len(entries) + 1) for part in itertools.permutations(entries, many)]


class TestQuiet(unittest.TestCase):
    def test_drawn_machines(self):
        counts = [0, 0]
        for seed, maker, machine in machines(range(300)):
            for table in (None, Table(), part_of_full(machine, maker.chance)):
                everything = Everything(machine, table)
                short = {}

                def watch(play, store, waiting, move, response, behind, left):
                    if move[0] == "call" and response[0] != "back":
                        short[move[1]] = False

                Search(machine, table, 4, watch)
                for entry, _, _ in machine.face.entries:
                    with self.subTest(seed=seed):
                        quiet = is_quiet(machine, entry, table)
                        self.assertIs(quiet, all(step[0][0] == "back" for call, step in everything.calls.items() if call[1] == entry))
                        self.assertTrue(short.get(entry, True) or not quiet)
                        counts[quiet] += 1
        self.assertGreater(min(counts), 100)

    def test_tables(self):
        asking = read("variable b 2 0", "callout c 1 1", "entry go 1 1 z", "  assign b 1", "  attempt", "    call c 0", "  assign b 0", "entry on 1 1 z", "  if b", "    call c 0")
        self.assertIs(is_quiet(asking, "on"), False)
        self.assertIs(is_quiet(asking, "on", Table()), True)
        self.assertIs(is_quiet(asking, "on", Table(("c", "go"))), True)
        self.assertIs(is_quiet(during=Table(("c", "on")), entry="on", machine=asking), False)
        self.assertIs(is_quiet(asking, "go", Table()), False)
        self.assertIs(is_quiet(Guarded(asking), "on"), True)

    def test_hangs_and_failures(self):
        made_so = read("entry spin 2 1 k", "  while k", "entry no 1 1 z", "  fail", "entry yes 1 1 z")
        self.assertEqual([is_quiet(made_so, entry) for entry in ("spin", "no", "yes")], [False, True, True])
        late = read("variable n 40 0", "entry go 1 1 z", "  assign n plus(n, 1)", "  while equal(n, 39)")
        self.assertIs(is_quiet(late, "go"), False)
        self.assertIs(is_quiet(read(*late.lines[:-1]), "go"), True)

    def test_layers(self):
        upper = read("callout low 1 2", "callout c 1 1", "entry go 1 2 z", "  slot s 2", "  call low 0 into s", "  return s", "entry ask 1 1 z", "  call c 0")
        both = Layered(upper, read("entry put 1 2 z", "  return 1"), (("low", "put"),))
        self.assertEqual([is_quiet(both, entry) for entry in ("go", "ask")], [True, False])
        self.assertIs(is_quiet(upper, "go"), False)

    def test_names(self):
        for value in values_other_than(lambda value: False) + ["ask", "n", "goo", ("go",), "GO"]:
            check_error(self, errors.InvalidName, {"value": value}, is_quiet, SET, value)
            check_error(self, errors.InvalidName, {"value": value}, is_quiet, during=5, entry=value, machine=SET)


class TestCanWait(unittest.TestCase):
    def check_obstacle(self, machine, entries, told):
        """What was told as an obstacle is one, with a play of the table that is meant."""
        self.assertIs(type(told), tuple)
        play, call, answer = told
        self.assertIs(type(play), Play)
        session = Session(machine, table_for(machine, entries))
        for move in play.moves():
            session(move)
        self.assertFalse(session.is_over)
        waiting = tuple(zip(session.pending, session.frames))
        self.assertIn((call, answer), obstacles_at(machine, entries, session.store, waiting))
        self.assertIn(call[1], entries)

    def test_drawn_machines(self):
        counts = {}
        for seed, maker, machine in machines(range(400)):
            for entries in parts_of([entry for entry, _, _ in machine.face.entries]):
                with self.subTest(seed=seed, entries=entries):
                    table = table_for(machine, entries)
                    everything = Everything(machine, table)
                    found = any(
                        obstacles_at(machine, entries, store, ((everything.callouts[frame], frame),)) for frame, store in everything.turns
                    )
                    told = obstacle(machine, entries)
                    self.assertIs(told is None, not found)
                    self.assertIs(can_wait(machine, entries), told is None)
                    if told is not None:
                        self.check_obstacle(machine, entries, told)
                    short = any(obstacles_at(machine, entries, store, waiting) for store, waiting in Search(machine, table, 4).turns if waiting)
                    self.assertFalse(short and told is None)
                    word = len(entries), told is None, bool(everything.turns)
                    counts[word] = counts.get(word, 0) + 1
        for many in (1, 2):
            self.assertGreater(counts[(many, True, True)], 8, counts)
            self.assertGreater(counts[(many, False, True)], 100, counts)

    def check(self, machine, entries, expected):
        for part in itertools.permutations(entries):
            self.assertIs(can_wait(machine, part), expected)
            self.assertIs(can_wait(entries=part, machine=machine), expected)
            told = obstacle(machine, part)
            self.assertIs(told is None, expected)
            if told is not None:
                self.check_obstacle(machine, part, told)

    def test_the_setter(self):
        self.check(SET, ("set", "get"), True)
        self.check(SET, ("go",), False)
        self.check(SET, ("set", "go"), False)
        self.check(SET, (), True)
        self.check(Begun(SET, (3,)), ("set", "get"), True)

    def test_what_the_answer_leads_to(self):
        def machine(*tail):
            return read("variable n 4 0", "callout ask 1 2", "entry go 1 4 z", "  slot s 4", "  assign s n", "  call ask 0", *tail, "entry set 4 4 k", "  assign n k", "  return k", "entry get 1 4 z", "  return n")

        for tail, quiet, changing in (
            (("  return 1",), True, True),
            (("  return n",), True, False),
            (("  return s",), True, True),
            (("  assign n 0",), False, False),
            (("  assign s plus(s, n)", "  return 0"), True, True),
            (("  assign s plus(s, n)", "  call ask 0", "  return 0"), True, False),
            (("  call ask 0", "  return 0"), True, True),
            (("  call ask n", "  return 0"), True, True),
            (("  if equal(n, 3)", "    while 1"), False, False),
            (("  if equal(n, plus(s, 1))", "    return 3"), True, False),
            (("  while 1",), False, False),
            (("  attempt", "    call ask 0", "  else", "    assign n 1"), False, False),
        ):
            with self.subTest(tail=tail):
                self.check(machine(*tail), ("get",), quiet)
                self.check(machine(*tail), ("set",), changing)
                self.check(machine(*tail), ("set", "get"), quiet and changing)

    def test_failures_count_as_answers(self):
        made_so = read("variable n 2 0", "callout ask 1 1", "entry go 1 1 z", "  attempt", "    call ask 0", "  else", "    assign n 1", "entry get 1 2 z", "  return n")
        self.check(made_so, ("get",), False)
        self.assertEqual(obstacle(made_so, ("get",))[1:], (("call", "get", 0), ("answer", -1)))

    def test_the_call_matters_by_its_value(self):
        made_so = read("variable n 4 0", "callout ask 1 1", "entry go 1 1 z", "  call ask 0", "  if equal(n, 2)", "    return 0", "  assign n 0", "entry set 4 1 k", "  if equal(k, 3)", "    assign n 1")
        self.check(made_so, ("set",), False)
        self.assertEqual(obstacle(made_so, ("set",))[1], ("call", "set", 3))

    def test_calls_after_the_answer(self):
        # Behind the answer the call calls out, or hangs, since the entry counts the answers.
        for last in ("    call ask 0", "    while 1"):
            made_so = read("variable n 2 0", "callout ask 1 1", "entry go 1 1 z", "  assign n 0", "  call ask 0", "  assign n 1", "entry on 1 1 z", "  if n", last)
            self.check(made_so, ("on",), False)
            self.check(read(*made_so.lines[:-1]), ("on",), True)

    def test_far_away(self):
        made_so = read("variable n 30 0", "callout ask 1 1", "entry go 1 1 z", "  call ask 0", "  if below(n, 29)", "    assign n plus(n, 1)", "entry get 1 1 z", "  if equal(n, 28)", "    return 0", "  if equal(n, 29)", "    while 1")
        self.check(made_so, ("get",), False)
        self.assertGreater(obstacle(made_so, ("get",))[0].length, 28)
        self.check(read(*made_so.lines[:-2]), ("get",), True)

    def test_watched_machines(self):
        first = Rule(((0, ("call", "set"), 1), (1, ("answer", "ask"), 2)), ())
        blind = Rule(((0, ("call", "set"), 1), (1, ("answer", "go"), 2)), ())
        values = Rule(((0, ("call", "set", 3), 1), (1, ("back", "go", 1), 2)), ())
        one_value = Rule(((0, ("out", "ask"), 1), (1, ("call", "set", 3), 2), (2, ("answer", "ask", -1), 3), (2, ("answer", "ask"), 4), (1, ("answer", "ask"), 4)), ())
        for rule, expected in ((first, False), (blind, True), (values, False), (one_value, False), (Rule(one_value.steps[:2] + one_value.steps[3:], ()), True), (Rule((), ()), True), (Rule(first.steps, (0,)), True)):
            self.check(Watched(SET, rule), ("set",), expected)
            self.check(Watched(SET, rule), ("get",), True)

    def test_guarded_machines(self):
        self.check(Guarded(SET), ("set",), False)
        self.check(Guarded(SET), ("go",), False)
        self.check(Guarded(SET), (), True)
        failing = read("callout ask 1 1", "entry go 1 2 z", "  call ask 0", "  return 1", "entry no 4 4 k", "  fail")
        self.check(Guarded(failing), ("no",), True)

    def test_layered_machines(self):
        upper = read("callout low 4 4", "callout ask 1 1", "entry go 1 4 z", "  call ask 0", "  return 1", "entry set 4 4 k", "  slot s 4", "  call low k into s", "  return s")
        lower = read("variable n 4 0", "entry put 4 4 k", "  assign n k", "  return n")
        self.check(Layered(upper, lower, (("low", "put"),)), ("set",), True)
        self.check(upper, ("set",), False)
        reading = read("callout low 4 4", "callout ask 1 1", "entry go 1 4 z", "  slot s 4", "  call ask 0", "  call low 0 into s", "  return s", *upper.lines[5:])
        self.check(Layered(reading, lower, (("low", "put"),)), ("set",), False)

    def test_entries(self):
        for function in (can_wait, obstacle):
            for value in values_other_than(lambda value: isinstance(value, tuple)) + [["set"], "set"]:
                check_error(self, errors.InvalidEntries, {"index": None}, function, SET, value)
                check_error(self, errors.InvalidEntries, {"index": None}, function, entries=value, machine=SET)
            for name in values_other_than(lambda value: False) + ["ask", "n", "sett", ("set",), ["set"]]:
                check_error(self, errors.InvalidEntries, {"index": 0}, function, SET, (name, "set"))
                check_error(self, errors.InvalidEntries, {"index": 2}, function, SET, ("get", "set", name))
            check_error(self, errors.InvalidEntries, {"index": 1}, function, SET, ("set", "set", "x"))
            check_error(self, errors.InvalidEntries, {"index": 3}, function, SET, ("set", "get", "go", "set", "get", "go"))


class TestPutOff(unittest.TestCase):
    def drawn_play(self, machine, table, chance, most):
        """The moves of a drawn play behind which nothing is pending."""
        session, moves, kept = Session(machine, table), [], 0
        for _ in range(most):
            if session.is_over:
                break
            choices = list(session.choices())
            calls = [move for move in choices if move[0] == "call"]
            move = chance.choice(calls if calls and chance.random() < 0.6 else choices)
            session(move)
            moves.append(move)
            if not session.pending and not session.is_over:
                kept = len(moves)
        return tuple(moves[:kept])

    def stretches(self, machine, table, moves):
        """For each stretch the pairs of a move and its response, and the store behind it."""
        session, found, row = Session(machine, table), [], []
        for move in moves:
            row.append((move, session(move)))
            if not session.pending:
                found.append((row, session.store))
                row = []
        self.assertEqual(row, [])
        return found

    def check(self, machine, entries, moves):
        table = table_for(machine, entries)
        made_so = put_off(machine, entries, moves)
        self.assertIs(type(made_so), tuple)
        self.assertEqual(made_so, put_off(moves=moves, entries=tuple(reversed(entries)), machine=machine))
        late = []
        for row, store in self.stretches(machine, table, moves):
            answers = [pair for pair in row[1:] if pair[0][0] == "answer"]
            calls = [pair for pair in row[1:] if pair[0][0] == "call"]
            late.append((row[:1] + answers + calls, store))
        self.assertEqual(made_so, tuple(move for row, _ in late for move, _ in row))
        # Moves that were put off stand in stretches of their own now.
        found = self.stretches(machine, table, made_so)
        self.assertEqual([pair for row, _ in found for pair in row], [pair for row, _ in late for pair in row])
        ends = list(itertools.accumulate(len(row) for row, _ in late))
        for end, (_, store) in zip(ends, late):
            session = Session(machine, table)
            for move in made_so[:end]:
                session(move)
            self.assertEqual((session.store, session.pending), (store, ()))
        return moves != made_so

    def test_drawn_machines(self):
        changed = 0
        for seed, maker, machine in machines(range(600)):
            for entries in parts_of([entry for entry, _, _ in machine.face.entries])[1:]:
                if can_wait(machine, entries):
                    for most in (3, 10, 30):
                        moves = self.drawn_play(machine, table_for(machine, entries), maker.chance, most)
                        with self.subTest(seed=seed, entries=entries):
                            changed += self.check(machine, entries, moves)
        self.assertGreater(changed, 15)

    def test_several_stretches(self):
        put = lambda value: ("call", "set", value)
        get, yes, no = ("call", "get", 0), ("answer", 0), ("answer", -1)
        for moves in ((), (GO, yes), (put(1), get), (GO, put(1), get, put(2), no, get, GO, yes, GO, get, put(3), yes, put(0))):
            self.check(SET, ("set", "get"), moves)
        twice = read("variable n 4 0", "callout ask 1 1", "entry go 1 2 z", "  attempt", "    call ask 0", "  call ask 0", "  return 1", *SET.lines[5:])
        moves = (GO, put(1), no, put(2), get, yes, get, GO, yes, put(1), yes)
        self.assertIs(self.check(twice, ("set", "get"), moves), True)
        self.assertEqual(put_off(twice, ("set", "get"), moves), (GO, no, yes, put(1), put(2), get, get, GO, yes, yes, put(1)))
        self.check(Watched(twice, Rule(((0, ("call", "set"), 1),), (1,))), ("set", "get"), moves)
        self.check(Begun(twice, (2,)), ("set", "get"), moves)

    def test_no_entries(self):
        self.check(SET, (), (GO, ("answer", 0), ("call", "set", 1), GO, ("answer", -1)))
        check_error(self, errors.InvalidMoves, {"index": 1}, put_off, SET, (), (GO, ("call", "set", 1), ("answer", 0)))

    def test_plays_that_end_with_a_hang(self):
        spin = read("callout ask 1 1", "entry go 2 1 z", "  if z", "    call ask 0", "  while 1")
        for moves in ((GO,), (("call", "go", 1), ("answer", 0))):
            self.assertEqual(put_off(spin, (), moves), moves)
            self.assertEqual(responses_of(spin, moves)[-1], HANG)
        check_error(self, errors.InvalidMoves, {"index": 2}, put_off, spin, ("go",), (("call", "go", 1), GO))
        check_error(self, errors.InvalidEntries, {"index": None}, put_off, spin, ("go",), (("call", "go", 1), ("answer", 0)))

    def test_wrong_moves(self):
        right = (GO, ("call", "set", 3), ("call", "get", 0), ("answer", 0), ("call", "get", 0), GO, ("answer", -1))
        self.check(SET, ("set", "get"), right)
        for index in range(len(right) + 1):
            for wrong in (("call", "set", 4), ("call", "no", 0), ("answer", 1), None, ["call", "get", 0], ("call", "get", False), ("answer", True), ("get",), ("hang",)):
                check_error(self, errors.InvalidMoves, {"index": index}, put_off, SET, ("set", "get"), right[:index] + (wrong,) + right[index:])
        # One that is not allowed: while a callout is pending, another call than of these entries; otherwise an answer.
        for index, pending in enumerate((0, 1, 1, 1, 0, 0, 1, 0)):
            wrong = GO if pending else ("answer", 0)
            check_error(self, errors.InvalidMoves, {"index": index}, put_off, SET, ("set", "get"), right[:index] + (wrong,) + right[index:])
        for value in values_other_than(lambda value: isinstance(value, tuple)) + [list(right)]:
            check_error(self, errors.InvalidMoves, {"index": None}, put_off, SET, ("set", "get"), value)

    def test_moves_behind_a_hang(self):
        spin = read("callout ask 1 1", "entry go 2 1 z", "  if z", "    call ask 0", "    return 0", "  while 1")
        before = (("call", "go", 1), ("answer", 0))
        for many in range(4):
            moves = before * many + (GO,)
            self.assertEqual(put_off(spin, (), moves), moves)
            for behind in (GO, ("answer", 0), None):
                check_error(self, errors.InvalidMoves, {"index": len(moves)}, put_off, spin, (), moves + (behind,))

    def test_callouts_that_are_pending_at_the_end(self):
        for moves in ((GO,), (GO, ("answer", 0), GO), (GO, ("call", "set", 1)), (GO, ("call", "set", 1), ("answer", 0), GO, ("call", "get", 0))):
            check_error(self, errors.InvalidMoves, {"index": len(moves)}, put_off, SET, ("set", "get"), moves)
        # Moves are looked at before it is asked whether calls can wait.
        check_error(self, errors.InvalidMoves, {"index": 2}, put_off, SET, ("go",), (GO, GO))

    def test_entries_whose_calls_cannot_wait(self):
        for moves in ((), (GO, ("answer", 0)), (GO, GO, ("answer", 0), ("answer", 0))):
            check_error(self, errors.InvalidEntries, {"index": None}, put_off, SET, ("go",), moves)
            check_error(self, errors.InvalidEntries, {"index": None}, put_off, SET, ("set", "go"), moves)

    def test_entries(self):
        for value in values_other_than(lambda value: isinstance(value, tuple)):
            check_error(self, errors.InvalidEntries, {"index": None}, put_off, SET, value, None)
        for name in values_other_than(lambda value: False) + ["ask", "set"]:
            check_error(self, errors.InvalidEntries, {"index": 1}, put_off, SET, ("set", name), None)

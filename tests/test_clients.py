import random
import unittest

from reentry import errors
from reentry.clients import client_of, linked
from reentry.machines import Begun, Guarded, Layered, Watched
from reentry.modules import Module
from reentry.rules import Rule
from reentry.sessions import Session, responses_of
from reentry.statements import Attempt, If, While
from reentry.statements import Call as CallStatement
from tests.oracle import Maker
from tests.plain import HANG
from tests.test_likeness import COUNTER, read
from tests.values import check_error, values_other_than

LOOSE = read("callout ask 1 2", "entry go 1 2 z", "  call ask 0", "  return 1")
GO = ("call", "go", 0)


def drawn_play(machine, chance, most):
    session = Session(machine)
    for _ in range(most):
        if session.is_over:
            break
        choices = list(session.choices())
        answers = [move for move in choices if move[0] == "answer"]
        session(chance.choice(answers if answers and chance.random() < 0.5 else choices))
    return session


def log_by_hand(machine, client, start, most):
    """Machine and client in two sessions, move by move; the log and the ending."""
    server, caller, log = Session(machine), Session(client), []
    response = caller.call(start, 0)
    while True:
        if response == HANG:
            return tuple(log), "hang"
        if response[0] == "back" and not server.pending:
            return tuple(log), "done"
        if len(log) >= most:
            return tuple(log), "cut"
        move = ("call",) + response[1:] if response[0] == "out" else ("answer", response[1])
        reply = server(move)
        log.append((move, reply))
        if reply == HANG:
            return tuple(log), "hang"
        response = caller(("call",) + reply[1:] if reply[0] == "out" else ("answer", reply[1]))


def calls_in(body, inside=False):
    """For each call statement of a body whether it stands in the first body of an attempt."""
    for statement in body:
        if isinstance(statement, CallStatement):
            yield inside
        elif isinstance(statement, If):
            yield from calls_in(statement.body + statement.otherwise, inside)
        elif isinstance(statement, While):
            yield from calls_in(statement.body, inside)
        elif isinstance(statement, Attempt):
            yield from calls_in(statement.body, True)
            yield from calls_in(statement.handler, inside)


class TestClients(unittest.TestCase):
    def check_form(self, machine, client, start):
        self.assertIs(type(client), Module)
        self.assertEqual(Module.read(str(client)), client)
        self.assertEqual(client.face.callouts, machine.face.entries)
        self.assertEqual(client.face.entries, tuple(sorted(machine.face.callouts + ((start, 1, 1),))))
        for entry in client.entries:
            self.assertTrue(all(calls_in(entry.body)))

    def check(self, machine, moves, start="main"):
        """The log begins with the moves and their responses, and all answers behind them are 0."""
        client = client_of(machine, moves, start)
        self.check_form(machine, client, start)
        self.assertEqual(str(client_of(start=start, moves=moves, machine=machine)), str(client))
        log, ending = linked(machine, client, start, 60)
        responses = responses_of(machine, moves)
        self.assertEqual(log[:len(moves)], tuple(zip(moves, responses)))
        self.assertEqual({move for move, _ in log[len(moves):]} - {("answer", 0)}, set())
        is_cut = len(linked(machine, client, start, 61)[0]) > 60
        self.assertEqual(ending, "cut" if is_cut else "hang" if log and log[-1][1] == HANG else "done")
        if responses and responses[-1] == HANG:
            self.assertEqual(len(log), len(moves))
        for most in range(len(log) + 2):
            self.assertEqual(linked(machine, client, start, most), log_by_hand(machine, client, start, most))
        return client, ending

    def test_drawn_plays(self):
        endings, same, lengths = {}, [0, 0], set()
        for seed in range(300):
            maker = Maker(seed)
            machine = (maker.module, maker.machine, maker.nested_module)[seed % 3]()
            if len(machine.face.callouts) == 5:
                continue
            for most in (2, 8, 15):
                session = drawn_play(machine, maker.chance, most)
                moves = tuple(move for move, _ in session.log)
                with self.subTest(seed=seed):
                    client, ending = self.check(machine, moves)
                    endings[ending] = endings.get(ending, 0) + 1
                    lengths.add(len(moves))
                    for other in maker.others(machine):
                        same[self.check_other(machine, other, moves, client)] += 1
        self.assertGreater(min(endings.get(word, 0) for word in ("done", "hang", "cut")), 5, endings)
        self.assertGreater(min(same), 100)
        self.assertEqual(lengths & {2, 8, 15}, {2, 8, 15})

    def pending_behind(self, machine, moves):
        """What is pending behind each of these moves; None if they are no play."""
        session, found = Session(machine), []
        try:
            for move in moves:
                session(move)
                found.append(session.pending)
        except (errors.InvalidMove, errors.NotAllowed, errors.Over):
            return None
        return found

    def check_other(self, machine, other, moves, client):
        """Another machine of the face, in which the moves are a play with the same callouts pending, gets them, too."""
        is_same = self.pending_behind(other, moves) == self.pending_behind(machine, moves)
        if is_same:
            log, _ = linked(other, client, "main", 60)
            self.assertEqual(log[:len(moves)], tuple(zip(moves, responses_of(other, moves))))
            self.assertEqual({move for move, _ in log[len(moves):]} - {("answer", 0)}, set())
        return is_same

    def test_the_same_values_do_not_matter(self):
        one = read("callout ask 3 2", "entry go 2 3 k", "  slot s 2", "  call ask k into s", "  return plus(s, k)")
        other = read("callout ask 3 2", "entry go 2 3 k", "  call ask 2", "  call ask 0", "  fail")
        moves = (("call", "go", 1), ("answer", 1), ("call", "go", 0), ("call", "go", 1), ("answer", 0), ("answer", -1), ("call", "go", 0))
        client, _ = self.check(one, moves)
        changed = read("callout ask 3 2", "entry go 2 3 k", "  attempt", "    call ask 2", "    return 2")
        self.assertEqual(linked(changed, client, "main", 9)[0][:7], tuple(zip(moves, responses_of(changed, moves))))
        self.assertNotEqual(linked(other, client, "main", 9)[0][:7], tuple(zip(moves, responses_of(one, moves))))

    def test_no_moves(self):
        client, ending = self.check(LOOSE, ())
        self.assertEqual((linked(LOOSE, client, "main", 0), ending), (((), "done"), "done"))

    def test_fifteen_and_sixteen_moves(self):
        moves = (GO, ("answer", 1), GO, GO, ("answer", -1), ("answer", 0), GO, GO, GO, ("answer", 1), ("answer", 1), ("answer", 0), GO, GO, GO)
        self.assertEqual(len(moves), 15)
        self.check(LOOSE, moves)
        check_error(self, errors.TooLong, {"limit": 15}, client_of, LOOSE, moves + (GO,))
        check_error(self, errors.TooLong, {"limit": 15}, client_of, LOOSE, moves * 3, "ask")
        check_error(self, errors.InvalidMoves, {"index": 15}, client_of, LOOSE, moves + (("answer", 2),), "ask")

    def test_hangs(self):
        spin = read("callout ask 1 2", "entry go 2 2 k", "  call ask 0", "  while k", "  return 1", "entry bad 1 1 z", "  while 1")
        for moves in ((("call", "bad", 0),), (("call", "go", 1), ("answer", 0)), (("call", "go", 1), ("call", "bad", 0))):
            self.assertEqual(self.check(spin, moves)[1], "hang")
        self.assertEqual(self.check(spin, (("call", "go", 1), ("answer", -1)))[1], "done")
        self.assertEqual(self.check(spin, (("call", "go", 1),))[1], "hang")

    def test_failures(self):
        failing = read("callout ask 1 2", "entry go 2 2 k", "  if k", "    fail", "  call ask 0", "  fail")
        moves = (("call", "go", 1), ("call", "go", 0), ("call", "go", 1), ("answer", -1), ("call", "go", 0), ("answer", 0), ("call", "go", 1))
        self.assertEqual(self.check(failing, moves)[1], "done")

    def test_names_that_are_words_of_the_texts(self):
        for words in (("call", "into", "else", "if"), ("n", "p", "main", "entry"), ("assign", "slot", "attempt", "fail"), ("variable", "callout", "return", "while"), ("equal", "plus", "not", "k")):
            one, two, three, four = words
            machine = read(f"callout {one} 2 2", f"callout {two} 1 1", f"entry {three} 2 2 k", f"  call {one} k into k", f"  call {two} 0", "  return k", f"entry {four} 1 1 z", f"entry {one} 1 1 z", f"  call {two} 0")
            moves = (("call", three, 1), ("call", four, 0), ("call", one, 0), ("answer", 0), ("answer", 1), ("call", three, 0), ("answer", -1), ("answer", -1))
            for start in ("start", three, four):
                if start not in words[:2]:
                    self.check(machine, moves, start)

    def test_starts(self):
        for start in ("main", "go", "s", "start1", "abcdefgh", "n", "p"):
            self.check(LOOSE, (GO, GO, ("answer", 1)), start)
        for start in values_other_than(lambda value: value == "a" and isinstance(value, str)) + ["ask", "Main", "abcdefghi", "", "1a", True]:
            check_error(self, errors.InvalidName, {"value": start}, client_of, LOOSE, (GO,), start)
        main = read("callout main 1 2", "entry go 1 2 z", "  call main 0")
        check_error(self, errors.InvalidName, {"value": "main"}, client_of, main, (GO,))
        self.check(main, (GO, ("answer", 1)), "go")

    def test_faces_with_many_callouts(self):
        lines = [f"callout c{index} 40 40" for index in range(5)]
        entries = [f"entry e{index} 40 40 k\n  call c{index} k into k\n  return k" for index in range(5)]
        four, five = read(*lines[:4], *entries[:4], "entry e4 40 40 k"), read(*lines, *entries)
        moves = tuple(("call", f"e{index}", 10 * index) for index in (0, 3, 1, 2, 3)) + (("answer", 39), ("answer", -1), ("call", "e4", 39), ("answer", 7))
        self.check(four, moves)
        check_error(self, errors.TooMany, {"limit": 5}, client_of, five, moves)
        check_error(self, errors.TooMany, {"limit": 5}, client_of, five, ())
        check_error(self, errors.InvalidName, {"value": "c4"}, client_of, five, moves, "c4")
        check_error(self, errors.TooLong, {"limit": 15}, client_of, five, (("call", "e0", 0),) * 16, "c4")
        check_error(self, errors.InvalidMoves, {"index": 0}, client_of, five, (("call", "e5", 0),) * 16, "c4")

    def test_other_machines(self):
        moves = (("call", "add", 1), ("call", "add", 1), ("call", "get", 0), ("answer", 1))
        upper = read("callout store 2 4", "entry add 2 4 k", "  slot s 4", "  call store k into s", "  return s", "entry get 1 4 z")
        for machine in (
            COUNTER, Begun(COUNTER, (2,)), Watched(COUNTER, Rule(((0, ("out", "changed"), 1),), (1,))), Layered(upper, COUNTER, (("store", "add"),)),
        ):
            self.check(machine, moves)
        self.check(Guarded(COUNTER), moves[:3] + (("answer", 1),) + moves[:1])

    def test_wrong_moves(self):
        right = (GO, GO, ("answer", 0), GO, ("answer", -1), ("answer", 1), GO)
        for index in range(len(right) + 1):
            for wrong in (("call", "go", 1), ("call", "no", 0), ("answer", 2), ("answer", -2), ["call", "go", 0], ("call", "go", False), None, ("answer", True), "go"):
                check_error(self, errors.InvalidMoves, {"index": index}, client_of, LOOSE, right[:index] + (wrong,) + right[index:], 5)
        for value in values_other_than(lambda value: isinstance(value, tuple)) + [list(right)]:
            check_error(self, errors.InvalidMoves, {"index": None}, client_of, LOOSE, value, "ask")
        check_error(self, errors.InvalidMoves, {"index": 6}, client_of, LOOSE, right[:6] + (("answer", 0),))
        spin = read("entry go 1 1 z", "  while 1")
        check_error(self, errors.InvalidMoves, {"index": 1}, client_of, spin, (GO, GO))


class TestLinked(unittest.TestCase):
    def check(self, machine, client, expected, start="main", mosts=(0, 1, 2, 3, 5, 30)):
        for most in mosts:
            self.assertEqual(linked(machine, client, start, most), log_by_hand(machine, client, start, most))
            self.assertEqual(linked(most=most, start=start, client=client, machine=machine), linked(machine, client, start, most))
        self.assertEqual(linked(machine, client, start, 30), expected)

    def test_a_start_that_calls(self):
        client = read("variable n 3 0", "callout go 1 2", "entry main 1 1 z", "  call go 0 into n", "  call go 0 into n", "entry ask 1 2 z", "  return n")
        pair = ((GO, ("out", "ask", 0)), (("answer", 0), ("back", 1)), (GO, ("out", "ask", 0)), (("answer", 1), ("back", 1)))
        self.check(LOOSE, client, (pair, "done"))
        self.assertEqual(linked(LOOSE, client, "main", 3), (pair[:3], "cut"))
        self.assertEqual(linked(LOOSE, client, "main", 4), (pair, "done"))

    def test_calls_back_and_forth(self):
        client = read("variable n 5 0", "callout go 1 2", "entry main 1 1 z", "  attempt", "    call go 0", "entry ask 1 2 z", "  if below(n, 4)", "    assign n plus(n, 1)", "    attempt", "      call go 0", "    return 1", "  fail")
        log = tuple([(GO, ("out", "ask", 0))] * 5 + [(("answer", -1), ("back", -1))] + [(("answer", 1), ("back", 1))] * 4)
        self.check(LOOSE, client, (log, "done"))
        endless = read("callout go 1 2", "entry main 1 1 z", "  call go 0", "entry ask 1 2 z", "  call go 0")
        self.check(LOOSE, endless, (((GO, ("out", "ask", 0)),) * 30, "cut"))
        self.assertEqual(len(linked(LOOSE, endless, "main", 3000)[0]), 3000)

    def test_results_that_fail(self):
        failing = read("callout ask 1 2", "entry go 1 2 z", "  fail")
        client = read("variable n 3 0", "callout go 1 2", "entry main 1 1 z", "  attempt", "    call go 0", "  else", "    call go 0", "  call go 0", "entry ask 1 2 z")
        self.check(failing, client, (((GO, ("back", -1)),) * 2, "done"))
        client = read("callout go 1 2", "entry main 1 1 z", "  call go 0", "entry ask 1 2 z", "  fail")
        self.check(LOOSE, client, (((GO, ("out", "ask", 0)), (("answer", -1), ("back", -1))), "done"))

    def test_hangs(self):
        start = ("callout go 1 2", "entry main 1 1 z")
        self.check(LOOSE, read(*start, "  while 1", "entry ask 1 2 z"), ((), "hang"))
        self.check(LOOSE, read(*start, "  call go 0", "  while 1", "entry ask 1 2 z"), (((GO, ("out", "ask", 0)), (("answer", 0), ("back", 1))), "hang"))
        self.check(LOOSE, read(*start, "  call go 0", "entry ask 1 2 z", "  while 1"), (((GO, ("out", "ask", 0)),), "hang"))
        spin = read("callout ask 1 2", "entry go 1 2 z", "  while 1")
        client = read(*start, "  attempt", "    call go 0", "  call go 0", "entry ask 1 2 z")
        self.check(spin, client, (((GO, HANG),), "hang"))
        self.assertEqual(linked(spin, client, "main", 1), (((GO, HANG),), "hang"))
        self.assertEqual(linked(spin, client, "main", 0), ((), "cut"))
        late = read("callout ask 1 2", "entry go 1 2 z", "  call ask 0", "  while 1")
        self.check(late, client, (((GO, ("out", "ask", 0)), (("answer", 0), HANG)), "hang"))

    def test_a_start_that_does_nothing(self):
        self.check(LOOSE, read("callout go 1 2", "entry main 3 7 z", "  return 6", "entry ask 1 2 z"), ((), "done"))
        self.check(LOOSE, read("callout go 1 2", "entry main 3 7 z", "  fail", "entry ask 1 2 z"), ((), "done"))

    def test_the_start_is_called_with_0(self):
        client = read("callout add 2 4", "callout get 1 4", "entry begin 2 1 k", "  call add k", "  if k", "    call get 0", "entry changed 4 2 z")
        self.check(COUNTER, client, (((("call", "add", 0), ("out", "changed", 0)), (("answer", 0), ("back", 0))), "done"), "begin")

    def test_drawn_clients(self):
        endings = {}
        for seed in range(300):
            maker = Maker(seed)
            machine = (maker.module, maker.machine)[seed % 2]()
            if len(machine.face.callouts) == 5:
                continue
            client = maker.module("9", machine.face.callouts + (("main", 1, 1),), machine.face.entries)
            found = linked(machine, client, "main", 20)
            for most in (0, 1, 7, 20):
                self.assertEqual(linked(machine, client, "main", most), log_by_hand(machine, client, "main", most))
            endings[found[1]] = endings.get(found[1], 0) + 1
        self.assertGreater(min(endings[word] for word in ("done", "hang", "cut")), 10, endings)

    def test_other_faces(self):
        client = read("callout go 1 2", "entry main 1 1 z", "  call go 0", "entry ask 1 2 z")
        self.assertEqual(linked(LOOSE, client, "main", 0), ((), "cut"))
        for start in values_other_than(lambda value: False) + ["ask", "go", "mai", "z", ["main"], ("main",)]:
            check_error(self, errors.FacesDiffer, {}, linked, LOOSE, client, start, "x")
        for lines in (
            ("callout go 2 2", "entry main 1 1 z", "entry ask 1 2 z"), ("callout go 1 1", "entry main 1 1 z", "entry ask 1 2 z"),
            ("callout goo 1 2", "entry main 1 1 z", "entry ask 1 2 z"), ("entry main 1 1 z", "entry ask 1 2 z"),
            ("callout go 1 2", "callout on 1 2", "entry main 1 1 z", "entry ask 1 2 z"), ("callout go 1 2", "entry main 1 1 z"),
            ("callout go 1 2", "entry main 1 1 z", "entry ask 2 2 z"), ("callout go 1 2", "entry main 1 1 z", "entry ask 1 1 z"),
            ("callout go 1 2", "entry main 1 1 z", "entry ask 1 2 z", "entry more 1 1 z"), ("callout go 1 2", "entry ask 1 2 z"),
            ("callout go 1 2", "entry main 1 1 z", "entry asks 1 2 z"),
        ):
            for start in ("main", "ask"):
                check_error(self, errors.FacesDiffer, {}, linked, LOOSE, read(*lines), start, -1)
        check_error(self, errors.FacesDiffer, {}, linked, LOOSE, LOOSE, "go", 0)
        two = read("callout go 1 2", "entry main 1 1 z", "entry begin 1 1 z", "  call go 0")
        sole = read("callout main 1 1", "entry go 1 2 z")
        self.assertEqual(linked(sole, two, "begin", 5), (((GO, ("back", 0)),), "done"))
        check_error(self, errors.FacesDiffer, {}, linked, sole, two, "main", 5)

    def test_counts(self):
        client = read("callout go 1 2", "entry main 1 1 z", "entry ask 1 2 z")
        for value in values_other_than(lambda value: type(value) is int and value >= 0) + [-1, True, (1,)]:
            check_error(self, errors.InvalidCount, {"value": value}, linked, LOOSE, client, "main", value)
        self.assertEqual(linked(LOOSE, client, "main", 10 ** 59), ((), "done"))

    def test_nothing_changes(self):
        chance = random.Random(1)
        session = drawn_play(COUNTER, chance, 6)
        before = session.log, session.store
        client = client_of(COUNTER, tuple(move for move, _ in session.log))
        text = str(client)
        first = linked(COUNTER, client, "main", 20)
        self.assertEqual(linked(COUNTER, client, "main", 20), first)
        self.assertEqual((session.log, session.store, str(client)), (*before, text))

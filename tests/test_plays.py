import itertools
import unittest

from reentry import errors
from reentry.machines import Begun, Guarded, Machine
from reentry.modules import Module
from reentry.pieces import joined, single
from reentry.plays import Play, plays
from reentry.sessions import Session
from reentry.tables import Table
from tests.plain import Search, part_of_full
from tests.oracle import Maker
from tests.values import any_values, check_error, values_other_than

ASKER = Module.read("callout ask 1 1\nentry go 1 1 z\n  call ask 0")
MIXED = Module.read(
    "variable n 2 0\ncallout c 2 1\ncallout b 1 2\nentry y 2 1 k\n  if n\n    call b 0\n    while k\n  call c k\n  assign n 1\n"
    "entry x 1 1 z\n  assign n not(n)\n  if n\n    fail"
)
HANG = ("hang",)


def moves_made(number):
    return [("call", "e", value % 7) for value in range(number)]


def chained(moves):
    """A piece of these moves, each one joined behind those before."""
    piece = None
    for move in moves:
        piece = joined(piece, single(move))
    return piece


def counted(value, least, most):
    return type(value) is int and least <= value <= most


class TestPlay(unittest.TestCase):
    def pieces(self):
        for many in (0, 1, 2, 3, 7, 399, 400, 401, 1000):
            moves = moves_made(many)
            yield moves, chained(moves)
            backwards = None
            for move in reversed(moves):
                backwards = joined(single(move), backwards) if backwards is not None else single(move)
            yield moves, backwards
            for half in (1, many // 2, many - 1):
                if 0 < half < many:
                    yield moves, joined(chained(moves[:half]), chained(moves[half:]))

    def test_length_at_and_part(self):
        for moves, piece in self.pieces():
            play, many = Play(piece), len(moves)
            self.assertEqual((play.length, repr(play)), (many, f"Play({many} moves)"))
            for index in {0, 1, 2, many // 2, many - 2, many - 1}:
                if 0 <= index < many:
                    self.assertEqual(play.at(index), moves[index])
                    self.assertEqual(play.at(index=index), moves[index])
            for start in {0, 1, 2, many // 2, many - 1, many, many + 1, many + 500, 10 ** 59}:
                for count in (0, 1, 2, 5, 399, 400):
                    if start >= 0:
                        self.assertEqual(play.part(start, count), tuple(moves[start:start + count]))
                        self.assertEqual(play.part(many=count, start=start), tuple(moves[start:start + count]))
            self.assertTrue(play)
            self.assertIs(play == play, True)
            self.assertIs(play == Play(piece), False)

    def test_moves(self):
        for moves, piece in self.pieces():
            if len(moves) <= 400:
                self.assertEqual(Play(piece).moves(), tuple(moves))
            else:
                check_error(self, errors.TooLong, {"limit": 400}, Play(piece).moves)

    def test_a_play_in_a_short_form(self):
        piece = joined(single(("call", "a", 0)), single(("answer", 1)))
        for _ in range(100):
            piece = joined(piece, piece)
        play = Play(piece)
        self.assertEqual(play.length, 2 ** 101)
        self.assertEqual(repr(play), f"Play({2 ** 101} moves)")
        for index in (0, 1, 2 ** 64, 2 ** 64 + 1, 2 ** 101 - 2, 2 ** 101 - 1):
            self.assertEqual(play.at(index), (("call", "a", 0), ("answer", 1))[index % 2])
        self.assertEqual(play.part(2 ** 80 + 1, 4), (("answer", 1), ("call", "a", 0)) * 2)
        self.assertEqual(play.part(2 ** 101 - 1, 400), (("answer", 1),))
        self.assertEqual(play.part(2 ** 101, 400), ())
        check_error(self, errors.InvalidCount, {"value": 2 ** 101}, play.at, 2 ** 101)
        check_error(self, errors.TooLong, {"limit": 400}, play.moves)

    def test_pieces_that_are_nested_deep(self):
        moves = moves_made(50000)
        piece = chained(moves)
        self.assertEqual(Play(piece).at(49999), moves[49999])
        self.assertEqual(Play(piece).part(0, 3), tuple(moves[:3]))
        for move in moves:
            piece = joined(single(move), piece)
        self.assertEqual(Play(piece).part(49998, 4), (moves[1], moves[0], moves[0], moves[1]))

    def test_wrong_counts(self):
        for many in (0, 1, 5, 1000):
            play = Play(chained(moves_made(many)))
            for value in values_other_than(lambda v: counted(v, 0, many - 1)) + [many, many + 1, -1]:
                check_error(self, errors.InvalidCount, {"value": value}, play.at, value)
                check_error(self, errors.InvalidCount, {"value": value}, play.at, index=value)
            for value in values_other_than(lambda v: counted(v, 0, 10 ** 60)):
                check_error(self, errors.InvalidCount, {"value": value}, play.part, value, 401)
                check_error(self, errors.InvalidCount, {"value": value}, play.part, many=None, start=value)
            for value in values_other_than(lambda v: counted(v, 0, 400)) + [401, -1]:
                check_error(self, errors.InvalidCount, {"value": value}, play.part, 0, value)
                check_error(self, errors.InvalidCount, {"value": value}, play.part, 10 ** 50, value)


class TestPlays(unittest.TestCase):
    def expected(self, machine, most, table):
        """All plays, by trying all rows of moves in sessions."""
        found = [()]
        for length in range(1, most + 1):
            longer = []
            for play in [play for play in found if len(play) == length - 1]:
                session = Session(machine, table)
                for move in play:
                    session(move)
                longer += [play + (move,) for move in session.choices()]
            found += sorted(longer)
        return found

    def test_all_plays(self):
        for machine in (ASKER, MIXED, Guarded(MIXED), Begun(MIXED, (1,))):
            for table in (None, Table(), Table.full(machine)):
                for most in range(5):
                    found = list(plays(machine, most, table))
                    self.assertEqual(found, self.expected(machine, most, table))
                    self.assertEqual(found, list(plays(during=table, most=most, machine=machine)))
        table = Table(("b", "x"), ("c", "y"))
        self.assertEqual(list(plays(MIXED, 4, table)), self.expected(MIXED, 4, table))

    def test_rows_of_any_moves(self):
        everything = [("call", "y", 0), ("call", "y", 1), ("call", "x", 0), ("answer", -1), ("answer", 0), ("answer", 1), ("answer", 2)]
        for table in (None, Table(), Table(("b", "x"))):
            expected = []
            for length in range(4):
                for moves in itertools.product(sorted(everything), repeat=length):
                    session = Session(MIXED, table)
                    try:
                        for move in moves:
                            session(move)
                    except (errors.InvalidMove, errors.NotAllowed, errors.Over):
                        continue
                    expected.append(moves)
            self.assertEqual(list(plays(MIXED, 3, table)), expected)

    def test_small_machines(self):
        total = 0
        for seed in range(100):
            maker = Maker(seed)
            machine = maker.machine()
            table = part_of_full(machine, maker.chance)
            found = list(plays(machine, 2, table))
            self.assertEqual(found, self.expected(machine, 2, table))
            shortest = Search(machine, table, 2).turns.values()
            self.assertLessEqual(set(shortest), set(found))
            total += len(found)
        self.assertGreater(total, 1000)

    def test_with_a_hang(self):
        machine = Module.read("entry spin 2 1 k\n  while k")
        spin, stop = ("call", "spin", 1), ("call", "spin", 0)
        self.assertEqual(list(plays(machine, 2)), [(), (stop,), (spin,), (stop, stop), (stop, spin)])
        always = Module.read("entry spin 1 1 k\n  while 1")
        self.assertEqual(list(plays(always, 10 ** 50)), [(), (("call", "spin", 0),)])

    def test_one_after_the_other(self):
        made = plays(ASKER, 10 ** 59)
        first = list(itertools.islice(made, 200))
        self.assertEqual(first, list(plays(ASKER, 9))[:200])
        self.assertEqual(next(made), next(itertools.islice(plays(ASKER, 50), 200, None)))

    def test_wrong_arguments(self):
        first = lambda *args, **named: next(plays(*args, **named))
        for value in values_other_than(lambda v: isinstance(v, Machine)) + [Module]:
            check_error(self, errors.NotAMachine, {"value": value}, first, value, -1, 5)
            check_error(self, errors.NotAMachine, {"value": value}, first, during=None, most=1, machine=value)
        for value in values_other_than(lambda v: counted(v, 0, 10 ** 60)) + [-1]:
            check_error(self, errors.InvalidCount, {"value": value}, first, ASKER, value, 5)
            check_error(self, errors.InvalidCount, {"value": value}, first, during=Table(), most=value, machine=ASKER)
        for value in values_other_than(lambda v: v is None or isinstance(v, Table)):
            check_error(self, errors.NotATable, {"value": value}, first, ASKER, 0, value)
        check_error(self, errors.UnknownPair, {"pair": ("ask", "x")}, first, ASKER, 0, Table(("ask", "x"), ("go", "x")))
        self.assertEqual(list(plays(ASKER, 0)), [()])
        self.assertTrue(any_values())

"""Shortest plays that are very long: they are made of calls whose calls back must have succeeded twice."""

import unittest

from reentry import errors
from reentry.always import breach, holds_always, is_kept, violation
from reentry.depth import deep_play, depth_of, play_to
from reentry.expressions import read_expression
from reentry.likeness import alike, parting
from reentry.machines import Guarded
from reentry.modules import Module
from reentry.rules import Rule
from reentry.sessions import Session
from reentry.tables import Table
from tests.values import check_error

GO, YES, NO = ("call", "go", 0), ("answer", 0), ("answer", -1)


def doubling(levels, result="ok"):
    """A module in which a call of level n succeeds if two calls back of level n - 1 have succeeded, one behind the other."""
    ask = [
        "    assign l minus(m, 1)", "    assign ok 0", "    attempt", "      call c 0", "    else", "      assign ok 0", "    assign l m",
        "    if not(ok)", "      return 0",
    ]
    return Module.read("\n".join([
        f"variable l {levels + 1} {levels}", "variable ok 2 0", "callout c 1 1", "entry go 1 2 z", f"  slot m {levels + 1}", "  assign m l", "  if m",
        *ask, *ask, "  assign ok 1", f"  return {result}",
    ]))


def expected_length(level):
    return 2 ** (level + 2) - 3


def expected_at(level, index):
    """The move with this index of the only shortest play in which a call of this level succeeds."""
    while True:
        inner = expected_length(level - 1) if level else 0
        if index == 0:
            return GO
        if index in (inner + 1, 2 * inner + 2):
            return YES
        index -= 1 if index <= inner else inner + 2
        level -= 1


class TestLongPlays(unittest.TestCase):
    def check(self, play, level, last=None):
        """The play is the shortest one in which a call of this level succeeds, perhaps with another last move."""
        length = expected_length(level)
        self.assertEqual((play.length, repr(play)), (length, f"Play({length} moves)"))
        places = {0, 1, 2, level, length // 2 - 1, length // 2, length // 2 + 1, length // 3, length * 2 // 3, length - 3, length - 2, 987654}
        for index in sorted(places):
            if 0 <= index < length:
                self.assertEqual(play.at(index), expected_at(level, index), index)
                row = tuple(expected_at(level, at) for at in range(index, min(index + 400, length)))
                self.assertEqual(play.part(index, 400), row)
                self.assertEqual(play.part(index, 7), row[:7])
        self.assertEqual(play.at(length - 1), YES if level else GO)
        for index in (length, length + 1, length * 2, -1, True, None):
            check_error(self, errors.InvalidCount, {"value": index}, play.at, index)
        self.assertEqual((play.part(length, 400), play.part(length + 10 ** 50, 1), play.part(0, 0)), ((), (), ()))
        self.assertEqual(len(play.part(length - 1, 400)), 1)
        if length > 400:
            check_error(self, errors.TooLong, {"limit": 400}, play.moves)
        else:
            self.assertEqual(play.moves(), tuple(expected_at(level, at) for at in range(length)))

    def test_expected_moves(self):
        """The rule for the moves itself, in sessions."""
        for level in range(8):
            session = Session(doubling(level))
            for index in range(expected_length(level)):
                self.assertFalse(session.shown == (level, 1))
                session(expected_at(level, index))
            self.assertEqual((session.shown, session.pending), ((level, 1), ()))

    def test_breaches(self):
        for level in (0, 1, 2, 3, 6, 7, 12, 24):
            module = doubling(level)
            condition = read_expression(f"not(both(equal(l, {level}), ok))")
            self.check(breach(module, condition), level)
            self.assertIs(holds_always(module, condition), False)
            self.assertIs(holds_always(module, condition, Table()), level > 0)
            self.assertIs(holds_always(Guarded(module), condition), level > 0)

    def test_levels_inside(self):
        # With 24 levels, a call of level 20 succeeds behind four calls of higher levels.
        for level in (20, 23, 24):
            condition = read_expression(f"not(both(equal(l, {level}), ok))")
            play = breach(doubling(24), condition)
            self.assertEqual(play.length, 24 - level + expected_length(level))
            self.assertEqual([play.at(24 - level + index) for index in range(300)], [expected_at(level, index) for index in range(300)])

    def test_plays_to_responses(self):
        for level in (1, 5, 24):
            module = doubling(level, f"both(ok, equal(m, {level}))")
            self.check(play_to(module, ("back", 1)), level)
            self.assertIsNone(play_to(module, ("back", 1), Table()))
            self.assertEqual(play_to(module, ("back", 0)).length, 2)

    def test_parting(self):
        for level in (0, 3, 7, 24):
            one, other = doubling(level, f"both(ok, equal(m, {level}))"), doubling(level, "0")
            self.check(parting(one, other), level)
            self.check(parting(other, one), level)
            self.assertIs(alike(one, other), False)
            self.assertIs(alike(one, other, Table()), level > 0)
            self.assertIs(alike(one, Guarded(other), Table()), level > 0)

    def test_rules(self):
        for level in (2, 9, 24):
            module = doubling(level, f"both(ok, equal(m, {level}))")
            rule = Rule(((0, ("back", "go", 1), 1),), (1,))
            self.check(violation(module, rule), level)
            self.assertIs(is_kept(module, rule), False)
            self.assertIs(is_kept(module, rule, Table()), True)

    def test_depth(self):
        self.assertEqual(depth_of(doubling(24)), 24)
        self.assertEqual([deep_play(doubling(24), many).length for many in (0, 1, 24)], [0, 1, 24])
        self.assertIsNone(deep_play(doubling(24), 25))
        # A call back is possible behind a long play only: the depth 2 takes a success of all levels.
        text = str(doubling(12, "both(ok, equal(m, 12))")).replace("  return both", "  if both(ok, equal(m, 12))\n    call d 0\n  return both")
        module = Module.read(text.replace("callout c 1 1", "callout c 1 1\ncallout d 1 1"))
        table = Table(("c", "go"))
        play = play_to(module, ("out", "d", 0), table)
        self.assertEqual(play.length, expected_length(12))
        last = [play.at(index) for index in (0, 1, play.length - 2, play.length - 1)]
        self.assertEqual(last, [GO, GO, YES, YES])

    def test_a_play_of_many_million_moves_in_parts(self):
        play = breach(doubling(12), read_expression("not(both(equal(l, 12), ok))"))
        moves, start = [], 0
        while part := play.part(start, 400):
            moves += part
            start += len(part)
        self.assertEqual(moves, [expected_at(12, index) for index in range(expected_length(12))])
        session = Session(doubling(12))
        for move in moves:
            session(move)
        self.assertEqual(session.shown, (12, 1))

    def test_plays_longer_than_any_machine_counts(self):
        play = breach(doubling(39), read_expression("not(both(equal(l, 39), ok))"))
        self.assertEqual(play.length, expected_length(39))
        for index in (0, 10 ** 9, 10 ** 12, play.length - 1):
            self.assertEqual(play.at(index), expected_at(39, index))

    def test_dozens_of_moves(self):
        made = Module.read(
            "variable n 40 0\ncallout c 1 1\nentry go 1 1 z\n  if equal(n, 39)\n    fail\n  call c 0\n  assign n plus(n, 1)\n  call c 0\n"
            "entry get 1 40 z\n  return n"
        )
        condition = read_expression("below(n, 39)")
        for table in (Table(), Table(("c", "get"))):
            # A call is given up at its second callout, which takes an answer less than a success.
            self.assertEqual(breach(made, condition, table).length, 38 * 3 + 2)
            self.assertEqual(play_to(made, ("back", 39), table).length, 38 * 3 + 2 + (2 if table == Table() else 1))
        # With all calls back, calls wait one in another until each of them is answered once.
        self.assertEqual(breach(made, condition).length, 2 * 39)

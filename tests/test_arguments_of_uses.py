"""Wrong arguments, alone and several at once, and TooLarge(20000), of what is built upon the decisions."""

import random
import unittest

from reentry import errors
from reentry.certificates import certify_always, certify_alike, certify_depth
from reentry.checker import holds
from reentry.clients import client_of, linked
from reentry.harmless import greatest_tables, least_tables
from reentry.expressions import read_expression
from reentry.likeness import alike
from reentry.machines import Begun, Guarded, Watched
from reentry.modules import Module
from reentry.reports import listing, summary
from reentry.rows import Rows
from reentry.rules import Rule
from reentry.shorter import shorter, without
from reentry.tables import Table, table_for
from reentry.waiting import can_wait, is_quiet, obstacle, put_off
from tests.test_arguments import (
    ABOVE, ASKING, DIFFERENT, EXPRESSIONS, FULL, MACHINES, MODULES, OTHER_FACE, SMALL, TABLES, TRUE, check_wrong, large, right_arguments,
    several,
)
from tests.values import check_error

PAIR = ("c", "go")
PAIRS = [(value, "InvalidPairs", {"index": None}) for value in (None, [PAIR], Table(PAIR), "c", (PAIR,) * 6)]
PAIRS += [(value, "InvalidPairs", {"index": index}) for value, index in (
    ((5,), 0), ((PAIR, PAIR), 1), ((PAIR, ("go", "c")), 1), ((["c", "go"],), 0), ((("c", True),), 0), ((PAIR + (1,),), 0),
)]
NAMES = [(value, "InvalidName", {"value": value}) for value in (None, "c", "", True, ("go",), "GO", 0, "g")]
ENTRIES = [(value, "InvalidEntries", {"index": None}) for value in (None, ["go"], "go", {"go": 1}, 3)]
ENTRIES += [(value, "InvalidEntries", {"index": index}) for value, index in (
    (("c",), 0), (("go", "go"), 1), (("go", None), 1), ((["go"],), 0), ((True,), 0),
)]
GO = ("call", "go", 0)
MOVES = [(value, "InvalidMoves", {"index": None}) for value in (None, [GO], "go", 3, {GO: 1})]
MOVES += [(value, "InvalidMoves", {"index": index}) for value, index in (
    ((5,), 0), ((GO, ("answer", 0), ("answer", 0)), 2), ((GO, ("answer", 1)), 1), ((list(GO),), 0), ((("call", "go", False),), 0),
)]
PENDING = [((GO,), "InvalidMoves", {"index": 1}), ((GO, GO), "InvalidMoves", {"index": 1})]
LONG = [((GO,) * 16, "TooLong", {"limit": 15})]
LINES = [(value, "InvalidCount", {"value": value}) for value in (None, -1, 0, 2, 6, True, "3", (3,), 10 ** 59)]
STARTS = [(value, "InvalidName", {"value": value}) for value in (None, "c", "Main", "", True, ("main",), "abcdefghi")]
OTHERS = [(value, "FacesDiffer", {}) for value in (None, "c", "go", "mai", True, ["main"], 0)]
COUNTS = [(value, "InvalidCount", {"value": value}) for value in (None, -1, True, "1", (1,), -(10 ** 59))]
CLIENT = client_of(SMALL, (GO,))

FUNCTIONS = [
    (function, [("one", None, MACHINES), ("other", None, DIFFERENT), ("pairs", (), PAIRS)]) for function in (greatest_tables, least_tables)
] + [
    (function, [("machine", None, MACHINES), ("entries", (), ENTRIES)]) for function in (can_wait, obstacle)
] + [
    (is_quiet, [("machine", None, MACHINES), ("entry", "go", NAMES), ("during", None, TABLES)]),
    (put_off, [("machine", None, MACHINES), ("entries", (), ENTRIES), ("moves", (), MOVES + PENDING)]),
    (without, [("module", None, MODULES), ("line", 3, LINES)]),
    (shorter, [("module", None, MODULES), ("during", None, TABLES)]),
    (client_of, [("machine", None, MACHINES), ("moves", (), MOVES + LONG), ("start", "main", STARTS)]),
    (linked, [("machine", None, MACHINES), ("client", CLIENT, MODULES), ("start", "main", OTHERS), ("most", 0, COUNTS)]),
    (summary, [("machine", None, MACHINES), ("during", None, TABLES)]),
    (certify_alike, [("one", None, MODULES), ("other", None, MODULES + [(OTHER_FACE, "FacesDiffer", {})]), ("during", None, TABLES)]),
    (certify_always, [("module", None, MODULES), ("condition", TRUE, EXPRESSIONS), ("during", None, TABLES)]),
] + [
    (function, [("module", None, MODULES), ("during", None, TABLES)]) for function in (listing, certify_depth)
]


class TestWrongArguments(unittest.TestCase):
    def test_each_wrong_argument(self):
        for function, parameters in FUNCTIONS:
            function(**right_arguments(parameters, SMALL))
            for name, _, wrong in parameters:
                for row in wrong:
                    check_wrong(self, function, parameters, SMALL, {name: row})

    def test_several_wrong_arguments(self):
        chance = random.Random(3)
        for function, parameters in FUNCTIONS:
            for chosen in several(parameters, chance, 20):
                check_wrong(self, function, parameters, SMALL, chosen)

    def test_arguments_that_may_be_left_out(self):
        self.assertIs(is_quiet(SMALL, "go"), False)
        self.assertEqual(shorter(SMALL), SMALL)
        self.assertEqual(client_of(SMALL, ()).entries[0].name, "main")
        self.assertEqual([summary(SMALL), listing(SMALL)], [summary(SMALL, None), listing(SMALL, None)])
        for proof in (certify_alike(SMALL, SMALL), certify_always(SMALL, TRUE), certify_depth(SMALL)):
            self.assertIs(holds(*proof), True)

    def test_modules_alone(self):
        for machine in (Guarded(SMALL), Begun(SMALL, (0,)), Watched(SMALL, Rule((), ()))):
            check_error(self, errors.NotAModule, {"value": machine}, without, machine, 3)
            for function in (shorter, listing, certify_depth):
                check_error(self, errors.NotAModule, {"value": machine}, function, machine)
            check_error(self, errors.NotAModule, {"value": machine}, certify_alike, machine, OTHER_FACE)
            check_error(self, errors.NotAModule, {"value": machine}, certify_alike, OTHER_FACE, machine)
            check_error(self, errors.NotAModule, {"value": machine}, certify_always, machine, 5)
            check_error(self, errors.NotAModule, {"value": machine}, linked, SMALL, machine, "main", 1)
            self.assertEqual(linked(machine, CLIENT, "main", 1)[0], ((GO, ("out", "c", 0)),))


class TestTooLarge(unittest.TestCase):
    def rows(self, machine, table):
        return Rows(machine, table_for(machine, table)).many

    def check(self, is_large, function, *args, **named):
        if is_large:
            check_error(self, errors.TooLarge, {"limit": 20000}, function, *args, **named)
        else:
            function(*args, **named)

    def test_just_below_and_just_above(self):
        self.assertEqual(self.rows(FULL, None), 20000)
        pairs = tuple(("c", f"e{index}") for index in range(5))
        for machine, is_large in ((FULL, False), (ABOVE, True), (Guarded(FULL), False), (Begun(ABOVE, (1, 1)), True), (Watched(FULL, Rule((), ())), False)):
            for function in (greatest_tables, least_tables):
                for part in ((), pairs[:1], pairs):
                    self.check(is_large, function, machine, machine, part)
            for function in (can_wait, obstacle):
                for entries in ((), ("e0",), ("e4", "e2")):
                    self.check(is_large, function, machine, entries)
            for table in (None, Table()):
                self.check(is_large, is_quiet, machine, "e0", table)
            self.check(is_large, put_off, machine, ("e1",), (("call", "e0", 1),))
            self.check(is_large, summary, machine)
            self.check(is_large, summary, machine, Table())
            # Clients are made and linked without tables.
            client = client_of(machine, (("call", "e0", 1),))
            self.assertEqual(linked(machine, client, "main", 3), (((("call", "e0", 1), ("back", 0)),), "done"))

    def test_modules(self):
        for module, is_large in ((FULL, False), (ABOVE, True)):
            for table in (None, Table()):
                self.check(is_large, listing, module, table)
                self.check(is_large, certify_alike, module, module, table)
                self.check(is_large, certify_depth, module, table)
                # It does not matter that the condition is false at the beginning already.
                for condition in (TRUE, read_expression("a"), read_expression("0")):
                    self.check(is_large, certify_always, module, condition, table)
        self.assertEqual(certify_always(FULL, read_expression("a"))[1], ())
        self.assertEqual(sum(len(rows) for rows in certify_depth(FULL)[1][0]), 20000)
        self.assertIs(holds(*certify_always(FULL, TRUE)), True)
        check_error(self, errors.UnknownName, {"entry": None, "name": "z"}, certify_always, ABOVE, read_expression("z"))
        check_error(self, errors.FacesDiffer, {}, certify_alike, ABOVE, SMALL)

    def test_one_row_more(self):
        for function in (listing, summary, certify_depth):
            self.check(False, function, large(38, True), Table())
            self.check(True, function, ASKING, Table())
        self.assertEqual(self.rows(large(38, True), Table()), 19901)
        for function in (greatest_tables, least_tables):
            self.check(False, function, large(38, True), large(38, True), ())
            self.check(True, function, ASKING, ASKING, ())
        self.check(False, can_wait, large(38, True), ())
        self.check(True, can_wait, ASKING, ())
        self.check(False, is_quiet, large(38, True), "e4", Table())
        self.check(True, is_quiet, ASKING, "e4", Table())

    def test_the_table_of_all_pairs(self):
        machine = large(38, True)
        pairs = (("c", "e0"), ("c", "e1"))
        counts = [self.rows(machine, Table(*part)) for part in ((), pairs[:1])]
        self.assertLess(max(counts), 20000)
        self.check(True, Rows, machine, Table(*pairs))
        for function in (greatest_tables, least_tables):
            self.check(False, function, machine, machine, pairs[:1])
            self.check(True, function, machine, machine, pairs)
        self.check(False, can_wait, machine, ("e0",))
        self.check(True, can_wait, machine, ("e1", "e0"))
        self.check(True, obstacle, machine, ("e1", "e0"))
        for function in (summary, listing, certify_depth):
            self.check(False, function, machine, Table(pairs[0]))
            self.check(True, function, machine, Table(*pairs))
        self.check(True, put_off, machine, ("e1", "e0"), ())
        self.check(False, is_quiet, machine, "e0", Table(pairs[0]))
        self.check(True, is_quiet, machine, "e0", Table(*pairs))

    def test_after_the_other_errors(self):
        check_error(self, errors.InvalidPairs, {"index": 0}, greatest_tables, ABOVE, ABOVE, (("c", "go"),))
        check_error(self, errors.InvalidEntries, {"index": 0}, can_wait, ABOVE, ("go",))
        check_error(self, errors.InvalidName, {"value": "go"}, is_quiet, ABOVE, "go")
        check_error(self, errors.InvalidMoves, {"index": 0}, put_off, ABOVE, ("e0",), (("answer", 0),))
        check_error(self, errors.InvalidMoves, {"index": 1}, put_off, ASKING, ("e4",), (("call", "e4", 0),))
        # Whether calls can wait is asked last of all: a call of the last entry calls out.
        check_error(self, errors.TooLarge, {"limit": 20000}, put_off, ASKING, ("e4",), ())
        check_error(self, errors.InvalidEntries, {"index": None}, put_off, large(30, True), ("e4",), ())

    def test_shorter(self):
        self.check(True, shorter, ABOVE)
        self.check(True, shorter, ABOVE, Table())
        # Beside itself it is not too large, but beside what it is without the first statement.
        self.assertIs(alike(FULL, FULL), True)
        self.check(True, alike, FULL, without(FULL, 4))
        self.check(True, shorter, FULL)
        bare = Module.read("\n".join(line for line in str(FULL).split("\n") if "assign" not in line))
        self.assertEqual(shorter(bare), bare)
        # Without any statement, the first variable alone has 1 of 40 values.
        wide = Module.read("variable a 40 0\n" + "\n".join(f"entry e{index} 40 1 k" for index in range(5)))
        self.assertEqual(shorter(wide), wide)

    def test_the_module_that_is_given(self):
        # Only beside itself it is too large: each of the shorter ones is parted from it soon.
        module = Module.read("variable a 40 0\ncallout c 40 1\nentry go 40 40 k\n  assign a plus(a, k)\n  attempt\n    call c a\n  return a")
        self.check(True, alike, module, module)
        for line in (3, 4, 5, 6):
            self.assertIs(alike(module, without(module, line)), False)
        self.check(True, shorter, module)
        self.assertEqual(shorter(module, Table()), module)

    def test_shorter_ones_that_part_at_once(self):
        # Rows with different responses ask for nothing, so that the shorter ones are not too large.
        lines = ["variable a 40 0"]
        for index in range(5):
            lines += [f"entry e{index} 40 40 k", "  assign a plus(a, k)", "  return a"]
        module = Module.read("\n".join(lines))
        self.assertEqual(Rows(module, Table()).many, 40 + 40 * 200)
        self.assertEqual(shorter(module), module)

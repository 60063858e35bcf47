"""Every wrong argument of the functions that decide, alone and several at once, and TooLarge(20000)."""

import itertools
import random
import unittest

from reentry import errors
from reentry.always import breach, holds_always, is_kept, violation
from reentry.depth import coming, deep_play, depth_of, play_to, used_lines
from reentry.expressions import Expression, Variable, read_expression
from reentry.likeness import alike, parting
from reentry.machines import Begun, Guarded, Machine, Watched
from reentry.modules import Module
from reentry.rows import Rows
from reentry.rules import Rule
from reentry.tables import Table, table_for
from tests.values import check_error, values_other_than

RULE = Rule(((0, ("out", "d"), 1),), (2,))
OTHER_FACE = Module.read("variable a 4 0\ncallout c 1 2\nentry go 1 2 z\n  call c 0")
SMALL = Module.read("variable a 4 0\ncallout c 1 1\nentry go 1 2 z\n  call c 0\n  assign a 1\n  return a")


def large(values, asks=False):
    """A module with 100 stores and 160 + `values` calls from each of them; the first call perhaps calls out."""
    lines = ["variable a 10 0", "variable b 10 0", "callout c 1 1"]
    for index in range(5):
        lines += [f"entry e{index} {values if index == 4 else 40} 1 k"]
        if asks and index == 4:
            lines += ["  if not(plus(k, plus(a, b)))", "    call c 0"]
        lines += ["  assign a plus(a, k)", f"  assign b plus(b, times(k, {index}))"]
    return Module.read("\n".join(lines))


FULL, ABOVE, ASKING = large(39), large(40), large(39, True)

MACHINES = [(value, "NotAMachine", {"value": value}) for value in (None, 5, Module, Table(), "entry go 1 1 z", (SMALL,), RULE)]
MODULES = [(value, "NotAModule", {"value": value}) for value in (None, True, Guarded(SMALL), Begun(SMALL, (0,)), Watched(SMALL, RULE), str(SMALL))]
EXPRESSIONS = [(value, "NotAnExpression", {"value": value}) for value in (None, 1, "a", Expression, RULE, ("a",))]
EXPRESSIONS += [
    (read_expression(text), "UnknownName", {"entry": None, "name": name})
    for text, name in (("q", "q"), ("plus(z, a)", "z"), ("plus(s, times(a, r))", "r"), ("equal(go, c)", "c"), ("k", "k"))
]
RULES = [(value, "NotARule", {"value": value}) for value in (None, 0, Rule, ((), ()), SMALL, Table())]
TABLES = [(value, "NotATable", {"value": value}) for value in (5, False, (), ("c", "go"), [("c", "go")], Table, {})]
TABLES += [
    (Table(*pairs), "UnknownPair", {"pair": pair})
    for pairs, pair in (((("go", "c"),), ("go", "c")), ((("x", "y"), ("c", "x")), ("c", "x")), ((("d", "d"), ("c", "a")), ("c", "a")))
]
COUNTS = [(value, "InvalidCount", {"value": value}) for value in (None, -1, True, "1", (1,), 201, 10 ** 59, -(10 ** 59))]
RESPONSES = [(value, "InvalidResponse", {"value": value}) for value in (
    None, 0, "hang", (), ("hang", 0), ["hang"], ("back",), ("back", True), ("back", "0"), ("back", None), ("back", 1, 1), ("back", 0, 0, 0),
    ("out", "c"), ("out", "C", 0), ("out", "c", False), ("out", 1, 0), ("out", "c", 0, 0), ("answer", 0), ("call", "go", 0),
    ("hang", "hang", 0), ("Hang",), (None,), (["hang"],), ["back", 0], ("back", (0,)), ("out", ("c",), 0), ("", "c", 0), ("out", "toolongname", 0),
)]
DIFFERENT = MACHINES + [(OTHER_FACE, "FacesDiffer", {})]

TRUE, RESPONSE = read_expression("below(a, 99)"), ("back", 0)
FUNCTIONS = [
    (function, [("one", None, MACHINES), ("other", None, DIFFERENT), ("during", None, TABLES)]) for function in (alike, parting)
] + [
    (function, [("machine", None, MACHINES), ("condition", TRUE, EXPRESSIONS), ("during", None, TABLES)]) for function in (holds_always, breach)
] + [
    (function, [("machine", None, MACHINES), ("rule", RULE, RULES), ("during", None, TABLES)]) for function in (is_kept, violation)
] + [
    (function, [("machine", None, MACHINES), ("during", None, TABLES)]) for function in (depth_of, coming)
] + [
    (deep_play, [("machine", None, MACHINES), ("depth", 0, COUNTS), ("during", None, TABLES)]),
    (play_to, [("machine", None, MACHINES), ("response", RESPONSE, RESPONSES), ("during", None, TABLES)]),
    (used_lines, [("module", None, MODULES), ("during", None, TABLES)]),
]


def right_arguments(parameters, machine):
    """Arguments that are as required, with this machine at each place of one."""
    return {name: machine if name in ("one", "other", "machine", "module") else value for name, value, _ in parameters}


def check_wrong(test, function, parameters, machine, chosen):
    """Check the error of the first one of the chosen wrong arguments, by position and by name."""
    given = {**right_arguments(parameters, machine), **{name: wrong[0] for name, wrong in chosen.items()}}
    first = next(wrong for name, _, _ in parameters for key, wrong in chosen.items() if key == name)
    kind = getattr(errors, first[1])
    check_error(test, kind, first[2], function, *given.values())
    check_error(test, kind, first[2], function, **dict(reversed(given.items())))
    positions = list(given.values())
    names = list(given)
    check_error(test, kind, first[2], function, positions[0], **dict(zip(names[1:], positions[1:])))


def several(parameters, chance, times):
    """Choices of wrong arguments for two and more parameters."""
    names = [name for name, _, _ in parameters]
    for many in range(2, len(names) + 1):
        for places in itertools.combinations(names, many):
            for _ in range(times):
                chosen = {name: chance.choice(wrong) for name, _, wrong in parameters if name in places}
                if chosen.get("one") and chosen.get("other") and chosen["other"][1] == "FacesDiffer":
                    del chosen["other"]
                yield chosen


class TestWrongArguments(unittest.TestCase):
    def test_each_wrong_argument(self):
        for function, parameters in FUNCTIONS:
            for name, _, wrong in parameters:
                for row in wrong:
                    for machine in (SMALL, ABOVE):
                        if row[1] in ("UnknownPair", "FacesDiffer") or machine is SMALL or name != "condition":
                            check_wrong(self, function, parameters, machine, {name: row})

    def test_several_wrong_arguments(self):
        chance = random.Random(2)
        for function, parameters in FUNCTIONS:
            for chosen in several(parameters, chance, 15):
                check_wrong(self, function, parameters, SMALL, chosen)

    def test_values_of_any_kind(self):
        is_machine = lambda value: isinstance(value, Machine)
        for value in values_other_than(is_machine):
            for function, parameters in FUNCTIONS:
                kind = errors.NotAModule if function is used_lines else errors.NotAMachine
                check_error(self, kind, {"value": value}, function, value, *[5] * (len(parameters) - 2))
        for value in values_other_than(lambda value: value is None):
            for function, parameters in FUNCTIONS:
                given = {**right_arguments(parameters, SMALL), "during": value}
                check_error(self, errors.NotATable, {"value": value}, function, **given)
        for value in values_other_than(lambda value: isinstance(value, Expression)):
            check_error(self, errors.NotAnExpression, {"value": value}, breach, SMALL, value, 5)
            check_error(self, errors.NotAnExpression, {"value": value}, holds_always, during=5, condition=value, machine=SMALL)
        for value in values_other_than(lambda value: isinstance(value, Rule)):
            check_error(self, errors.NotARule, {"value": value}, violation, SMALL, value, 5)
            check_error(self, errors.NotARule, {"value": value}, is_kept, SMALL, value)
        for value in values_other_than(lambda value: type(value) is int and 0 <= value <= 200):
            check_error(self, errors.InvalidCount, {"value": value}, deep_play, SMALL, value, 5)
        for value in values_other_than(lambda value: False):
            check_error(self, errors.InvalidResponse, {"value": value}, play_to, SMALL, value, 5)

    def test_a_variable_of_every_machine(self):
        for machine in (SMALL, Begun(SMALL, (2,)), Guarded(SMALL), Watched(SMALL, RULE)):
            self.assertIs(holds_always(machine, Variable("a") + read_expression("1")), True)
            for function in (holds_always, breach):
                check_error(self, errors.UnknownName, {"entry": None, "name": "c"}, function, machine, Variable("c"))


class TestTooLarge(unittest.TestCase):
    def run_all(self, machine, table, is_large):
        for function, parameters in FUNCTIONS:
            given = right_arguments(parameters, machine)
            given["during"] = table
            if is_large:
                check_error(self, errors.TooLarge, {"limit": 20000}, function, **given)
            else:
                function(**given)

    def rows(self, machine, table):
        return Rows(machine, table_for(machine, table)).many

    def test_just_below_and_just_above(self):
        # 100 grounds and 199 ends of each of them. With the callout there is one place more, and the end behind it.
        self.assertEqual((self.rows(FULL, None), self.rows(large(38, True), Table())), (20000, 19901))
        self.run_all(FULL, None, False)
        self.run_all(large(38, True), Table(), False)
        self.run_all(ABOVE, None, True)
        self.run_all(ASKING, Table(), True)

    def test_calls_back_make_more_rows(self):
        # Calls back lead to the place with each of the 100 stores, and answers from there to as many ends.
        self.assertEqual(self.rows(large(37, True), None), 100 + 19600 + 200 + 99)
        self.assertEqual(self.rows(large(37, True), Table()), 100 + 19700 + 1)
        self.run_all(large(37, True), None, False)
        self.run_all(large(38, True), None, True)

    def test_whatever_the_result_would_be(self):
        check_error(self, errors.TooLarge, {"limit": 20000}, breach, ABOVE, read_expression("a"))
        check_error(self, errors.TooLarge, {"limit": 20000}, holds_always, ABOVE, read_expression("0"))
        check_error(self, errors.TooLarge, {"limit": 20000}, violation, ABOVE, Rule((), (0,)))
        check_error(self, errors.TooLarge, {"limit": 20000}, is_kept, ABOVE, Rule((), (0,)))
        check_error(self, errors.TooLarge, {"limit": 20000}, deep_play, ABOVE, 0)
        check_error(self, errors.TooLarge, {"limit": 20000}, deep_play, ABOVE, 200)
        check_error(self, errors.TooLarge, {"limit": 20000}, play_to, ABOVE, ("back", 77))
        check_error(self, errors.TooLarge, {"limit": 20000}, play_to, ABOVE, ("hang",))
        self.assertEqual(breach(FULL, read_expression("a")).moves(), ())
        self.assertIsNone(play_to(FULL, ("back", 77)))

    def test_rows_of_pairs(self):
        one = Module.read(str(ABOVE).replace("  assign a plus(a, k)", "  assign a plus(a, k)\n  return 0"))
        check_error(self, errors.TooLarge, {"limit": 20000}, alike, ABOVE, Begun(ABOVE, (0, 0)))
        check_error(self, errors.TooLarge, {"limit": 20000}, parting, ABOVE, one)
        # The calls of one entry get other responses, and ask for nothing: 100 grounds and 160 ends of each of them.
        failing = Module.read(str(ABOVE).replace("entry e4 40 1 k\n", "entry e4 40 1 k\n  fail\n"))
        self.assertEqual(parting(ABOVE, failing).length, 1)
        self.assertIs(alike(failing, ABOVE), False)
        check_error(self, errors.TooLarge, {"limit": 20000}, alike, failing, failing)

    def test_other_machines_than_modules(self):
        for machine in (Guarded(FULL), Begun(FULL, (3, 4)), Watched(FULL, Rule((), ()))):
            self.assertEqual((depth_of(machine), alike(machine, FULL)), (0, True))
        for machine in (Guarded(ABOVE), Begun(ABOVE, (3, 4)), Watched(ABOVE, Rule((), ()))):
            check_error(self, errors.TooLarge, {"limit": 20000}, depth_of, machine)
            check_error(self, errors.TooLarge, {"limit": 20000}, alike, machine, machine)
        # The rule doubles the stores of the watched machine.
        rule = Rule(((0, ("call", "e1"), 1),), ())
        check_error(self, errors.TooLarge, {"limit": 20000}, is_kept, FULL, rule)
        check_error(self, errors.TooLarge, {"limit": 20000}, violation, FULL, Rule(rule.steps, (1,)))
        check_error(self, errors.TooLarge, {"limit": 20000}, depth_of, Watched(FULL, rule))

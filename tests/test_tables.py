import itertools
import unittest

from reentry import errors
from reentry.machines import Guarded, Layered, Machine
from reentry.modules import Module
from reentry.tables import Table
from tests.values import any_values, check_error, values_other_than

COUNTER = Module.read(
    "variable n 4 0\ncallout changed 4 2\nentry add 2 4 k\n  assign n k\n  call changed n\nentry get 1 4 z\n  return n"
)
PAIRS = (("a", "x"), ("a", "y"), ("b", "x"), ("b", "y"))
WRONG = [
    ("a",), ("a", "x", "x"), ["a", "x"], ("a", "X"), ("A", "x"), ("a", 1), (1, "x"), ("a", None), ("", "x"), ("a", b"x"),
    (("a", "x"), ("b", "y")), ("a", ["x"]), {"a": "x"}, "ax", ("a", "abcdefghi"),
]


def is_pair(value):
    return isinstance(value, tuple) and len(value) == 2 and isinstance(value[0], str) and isinstance(value[1], str)


class TestTable(unittest.TestCase):
    def test_pairs_in_any_order(self):
        for order in itertools.permutations(PAIRS):
            made = Table(*order)
            self.assertEqual(made.pairs, PAIRS)
            self.assertIs(type(made.pairs), tuple)
            self.assertEqual(list(made), list(PAIRS))
            self.assertEqual(made, Table(*PAIRS))
        self.assertEqual(Table(("b", "b"), ("b", "a0"), ("a", "z")).pairs, (("a", "z"), ("b", "a0"), ("b", "b")))
        self.assertEqual(Table().pairs, ())

    def test_names_that_are_equal(self):
        made = Table(("a", "a"), ("b", "a"))
        self.assertEqual(made.pairs, (("a", "a"), ("b", "a")))
        self.assertIs(made.allows("a", "a"), True)
        self.assertIs(made.allows("a", "b"), False)

    def test_wrong_pairs_at_any_index(self):
        for value in any_values() + WRONG + [Table(), Table(("a", "x"))]:
            self.assertFalse(is_pair(value) and value[1].islower() and value[0] == "a" and value[1] == "x")
            for index in range(3):
                pairs = [("a", "x"), ("b", "x"), ("c", "x")]
                pairs[index] = value
                check_error(self, errors.InvalidPairs, {"index": index}, Table, *pairs)
                check_error(self, errors.InvalidPairs, {"index": index}, Table, *pairs, 5, ("a", "x"))

    def test_pairs_that_came_before(self):
        for index in range(1, 4):
            for before in range(index):
                pairs = list(PAIRS)
                pairs[index] = tuple(pairs[before])
                check_error(self, errors.InvalidPairs, {"index": index}, Table, *pairs)
                check_error(self, errors.InvalidPairs, {"index": index}, Table, *pairs, None)

    def test_full(self):
        pairs = (("changed", "add"), ("changed", "get"))
        for made in (Table.full(COUNTER), Table.full(machine=COUNTER), Table.full(Guarded(COUNTER))):
            self.assertEqual(made.pairs, pairs)
            self.assertEqual(made, Table(*pairs))
        upper = Module.read("callout b 4 4\ncallout a 1 1\nentry z 1 1 z\nentry y 1 1 z")
        both = Layered(upper, COUNTER, ())
        self.assertEqual(Table.full(both).pairs, tuple((c, e) for c in ("a", "b", "changed") for e in "yz"))
        self.assertEqual(Table.full(Module.read("entry z 1 1 z")), Table())
        for value in values_other_than(lambda v: isinstance(v, Machine)) + [Module, Table(), COUNTER.face]:
            check_error(self, errors.NotAMachine, {"value": value}, Table.full, value)
        self.assertIsInstance(vars(Table)["full"], staticmethod)

    def test_allows_and_in(self):
        made = Table(*PAIRS[:3])
        for first in any_values() + ["a", "b", "x", "y"]:
            for second in any_values() + ["a", "b", "x", "y"]:
                expected = type(first) is str and type(second) is str and (first, second) in PAIRS[:3]
                self.assertIs(made.allows(first, second), expected)
                self.assertIs((first, second) in made, expected)
        self.assertIs(made.allows(entry="y", callout="a"), True)
        self.assertIs(made.allows(callout="b", entry="y"), False)
        for value in any_values() + WRONG + [PAIRS[3], made, None, PAIRS, COUNTER]:
            self.assertIs(value in made, False)
            self.assertIs(value in Table(), False)
            self.assertIs(value not in made, True)

    def test_operators(self):
        for many in range(5):
            for first in itertools.combinations(PAIRS, many):
                for other in range(5):
                    for second in itertools.combinations(PAIRS, other):
                        one, two = Table(*reversed(first)), Table(*second)
                        self.assertEqual((one | two).pairs, tuple(sorted({*first, *second})))
                        self.assertEqual((one & two).pairs, tuple(sorted({*first} & {*second})))
                        self.assertEqual((one - two).pairs, tuple(sorted({*first} - {*second})))
                        self.assertIs(one.within(two), {*first} <= {*second})
                        self.assertIs(one == two, {*first} == {*second})
                        self.assertIs(one != two, {*first} != {*second})
                        self.assertEqual((one.pairs, two.pairs), (first, second))
        self.assertIsInstance(Table() | Table(), Table)

    def test_operands_that_are_no_tables(self):
        made = Table(("a", "x"))
        for value in any_values() + [(("a", "x"),), ("a", "x"), Table]:
            check_error(self, errors.NotATable, {"value": value}, lambda: made | value)
            check_error(self, errors.NotATable, {"value": value}, lambda: made & value)
            check_error(self, errors.NotATable, {"value": value}, lambda: made - value)
            check_error(self, errors.NotATable, {"value": value}, made.within, value)
            check_error(self, errors.NotATable, {"value": value}, made.within, other=value)

    def test_length_equality_and_repr(self):
        for many in range(5):
            made = Table(*PAIRS[:many])
            self.assertEqual((len(made), bool(made), repr(made)), (many, many > 0, f"Table({many} pairs)"))
            self.assertEqual([pair for pair in made], list(PAIRS[:many]))
        for value in any_values() + [PAIRS, list(PAIRS)]:
            if type(value).__name__ != "Stranger":
                self.assertIs(Table(*PAIRS) == value, False)
                self.assertIs(Table() == value, False)

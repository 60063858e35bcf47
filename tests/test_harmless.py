import itertools
import unittest

from reentry import errors
from reentry.harmless import greatest_tables, least_tables
from reentry.likeness import alike
from reentry.machines import Begun, Guarded, Layered, Watched
from reentry.modules import Module
from reentry.rules import Rule
from reentry.tables import Table
from tests.oracle import Maker
from tests.plain import Pair, are_alike, tables_of
from tests.test_likeness import COUNTER, EARLY, read
from tests.values import check_error, values_other_than

PAIRS = (("changed", "add"), ("changed", "get"))


def parts_of(pairs):
    return [frozenset(part) for many in range(len(pairs) + 1) for part in itertools.combinations(pairs, many)]


def expected(one, other, pairs):
    """The pairs of the greatest and of the least tables, with `alike` asked for every part."""
    good = [part for part in parts_of(pairs) if alike(one, other, Table(*part))]
    bad = [part for part in parts_of(pairs) if part not in good]
    greatest = [part for part in good if not any(part < larger for larger in good)]
    least = [part for part in bad if not any(smaller < part for smaller in bad)]
    return [tuple(sorted(tuple(sorted(part)) for part in parts)) for parts in (greatest, least)]


class TestHarmless(unittest.TestCase):
    def check(self, one, other, pairs, expected_pairs=None):
        """Check both functions for both sequences of the machines; the numbers of tables."""
        wanted = expected_pairs or expected(one, other, pairs)
        for first, second in ((one, other), (other, one)):
            for function, tables in zip((greatest_tables, least_tables), wanted):
                found = function(first, second, pairs)
                self.assertIs(type(found), tuple)
                self.assertEqual({type(table) for table in found}, {Table} if found else set())
                self.assertEqual(tuple(table.pairs for table in found), tables)
                self.assertEqual(found, function(pairs=pairs, other=second, one=first))
        return [len(tables) for tables in wanted]

    def test_drawn_machines(self):
        counts = {}
        for seed in range(160):
            maker = Maker(seed)
            machine = (maker.module, maker.machine, maker.nested_module)[seed % 3]()
            pairs = list(Table.full(machine).pairs)
            maker.chance.shuffle(pairs)
            for other in maker.others(machine):
                if tables_of(Pair(machine, other), None, 600) is None:
                    continue
                chosen = tuple(maker.chance.sample(pairs, min(len(pairs), 4)))
                with self.subTest(seed=seed):
                    counted = tuple(self.check(machine, other, chosen))
                    counts[counted] = counts.get(counted, 0) + 1
                    backwards = tuple(reversed(chosen))
                    self.assertEqual(greatest_tables(machine, other, backwards), greatest_tables(machine, other, chosen))
                    self.assertEqual(least_tables(machine, other, backwards), least_tables(machine, other, chosen))
        self.assertGreater(len(counts), 4, counts)
        for counted in ((1, 0), (0, 1), (1, 1)):
            self.assertGreater(counts[counted], 15, counts)

    def test_against_a_plain_search(self):
        for seed in range(40):
            maker = Maker(seed + 900)
            machine = maker.module()
            for other in maker.others(machine):
                if tables_of(Pair(machine, other), None, 300) is None:
                    continue
                pairs = Table.full(machine).pairs[:3]
                good = [table.pairs for table in greatest_tables(machine, other, pairs)]
                for part in parts_of(pairs):
                    self.assertIs(any(part <= set(table) for table in good), are_alike(machine, other, Table(*part)))

    def test_several_greatest_and_least_tables(self):
        # It takes calls back of two different entries to see a difference.
        head = ["variable busy 2 0", "variable n 16 0", "callout c 1 1", "entry go 1 2 z", "  assign busy 1", "  attempt", "    call c 0", "  assign busy 0"]
        entries = []
        for index, mark in enumerate((1, 2, 4, 8)):
            entries += [f"entry e{index} 1 1 z", "  if busy", "    if equal(n, 0)", f"      assign n {mark}", f"    if not(equal(n, {mark}))", "      assign n 15"]
        one = read(*head, "  if equal(n, 15)", "    assign n 0", "    return 1", "  assign n 0", "  return 0", *entries)
        other = read(*head, "  assign n 0", "  return 0", *entries)
        pairs = tuple(("c", f"e{index}") for index in (2, 0, 3, 1))
        self.assertEqual(self.check(one, other, pairs), [4, 6])
        self.assertEqual([table.pairs for table in greatest_tables(one, other, pairs)], [(("c", f"e{index}"),) for index in range(4)])
        self.assertEqual(least_tables(one, other, pairs)[3].pairs, (("c", "e1"), ("c", "e2")))
        self.assertEqual(self.check(one, other, pairs + (("c", "go"),))[0], 4)

    def test_greatest_tables_of_several_sizes(self):
        # A call back of the first entry is seen if one of the others has been called back before, in the same wait.
        head = ["variable busy 2 0", "variable n 3 0", "callout c 1 1", "entry go 1 2 z", "  assign busy 1", "  attempt", "    call c 0", "  assign busy 0"]
        entries = ["entry e0 1 1 z", "  if both(busy, n)", "    assign n 2"]
        for name in ("e1", "e2", "e3"):
            entries += [f"entry {name} 1 1 z", "  if both(busy, not(n))", "    assign n 1"]
        one = read(*head, "  if equal(n, 2)", "    assign n 0", "    return 1", "  assign n 0", "  return 0", *entries)
        other = read(*head, "  assign n 0", "  return 0", *entries)
        first, *others = pairs = tuple(("c", f"e{index}") for index in range(4))
        for given in (pairs, tuple(reversed(pairs)), pairs[2:] + pairs[:2]):
            self.check(one, other, given, [((first,), tuple(others)), tuple((first, pair) for pair in others)])

    def test_the_same_machine_twice(self):
        for machine in (COUNTER, Guarded(COUNTER), Begun(COUNTER, (2,)), Watched(COUNTER, Rule((), ()))):
            self.check(machine, machine, PAIRS, [(PAIRS,), ()])
            self.check(machine, machine, (), [((),), ()])

    def test_not_alike_under_the_empty_table(self):
        other = Begun(COUNTER, (1,))
        self.assertEqual((greatest_tables(COUNTER, other, PAIRS), least_tables(COUNTER, other, PAIRS)), ((), (Table(),)))
        self.assertEqual((greatest_tables(COUNTER, other, ()), least_tables(COUNTER, other, ())), ((), (Table(),)))

    def test_no_pairs(self):
        self.check(COUNTER, EARLY, (), [((),), ()])
        plain = read("entry go 1 2 z")
        self.check(plain, plain, (), [((),), ()])
        self.check(plain, read("entry go 1 2 z", "  return 1"), (), [(), ((),)])

    def test_some_pairs(self):
        self.check(COUNTER, EARLY, PAIRS, [((PAIRS[1],),), ((PAIRS[0],),)])
        self.check(COUNTER, EARLY, PAIRS[:1], [((),), (PAIRS[:1],)])
        self.check(COUNTER, EARLY, PAIRS[1:], [(PAIRS[1:],), ()])

    def test_layered_machines(self):
        upper = read("callout low 3 4", "callout c 1 1", "entry go 3 4 k", "  slot s 4", "  call low k into s", "  call c 0", "  return s")
        lower = read("variable n 4 0", "entry put 3 4 k", "  assign n plus(n, k)", "  return n")
        both = Layered(upper, lower, (("low", "put"),))
        flat = read("variable n 4 0", "callout c 1 1", "entry go 3 4 k", "  assign n plus(n, k)", "  call c 0", "  return n")
        self.check(both, flat, (("c", "go"),), [((),), ((("c", "go"),),)])
        self.check(both, both, (("c", "go"),), [((("c", "go"),),), ()])

    def test_five_pairs(self):
        made = read("callout a 1 1", "callout b 1 1", "callout d 1 1", "entry e 1 1 z", "  call a 0", "  call b 0", "  call d 0", "entry f 1 1 z")
        pairs = Table.full(made).pairs
        self.check(made, Guarded(made), pairs[:5])
        self.check(made, Guarded(made), tuple(reversed(pairs[1:])))
        self.assertEqual(len(pairs), 6)
        for function in (greatest_tables, least_tables):
            check_error(self, errors.InvalidPairs, {"index": None}, function, made, made, pairs)
            check_error(self, errors.InvalidPairs, {"index": None}, function, made, made, pairs[:1] * 6)
            check_error(self, errors.InvalidPairs, {"index": 4}, function, made, made, pairs[:4] + pairs[3:4])

    def test_wrong_pairs(self):
        for function in (greatest_tables, least_tables):
            for value in values_other_than(lambda value: isinstance(value, tuple)):
                check_error(self, errors.InvalidPairs, {"index": None}, function, COUNTER, EARLY, value)
            for pair in [None, "changed", 5, ("changed",), ("get", "changed"), ("changed", "other"), ("other", "get"), ("changed", "get", 1),
                         ["changed", "get"], ("changed", True), (["changed"], "get"), (("changed", "get"),), Table(("changed", "get")), ()]:
                check_error(self, errors.InvalidPairs, {"index": 0}, function, COUNTER, EARLY, (pair,))
                check_error(self, errors.InvalidPairs, {"index": 1}, function, one=COUNTER, other=EARLY, pairs=(PAIRS[1], pair, PAIRS[0]))
            check_error(self, errors.InvalidPairs, {"index": None}, function, COUNTER, EARLY, list(PAIRS))
            check_error(self, errors.InvalidPairs, {"index": None}, function, COUNTER, EARLY, Table(*PAIRS))
            check_error(self, errors.InvalidPairs, {"index": 2}, function, COUNTER, EARLY, PAIRS + PAIRS)
            check_error(self, errors.InvalidPairs, {"index": 1}, function, COUNTER, EARLY, (PAIRS[0], ("x", "y"), PAIRS[0], None))
            check_error(self, errors.InvalidPairs, {"index": 1}, function, COUNTER, EARLY, (PAIRS[0], PAIRS[0], ("x", "y")))

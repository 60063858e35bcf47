import unittest

from reentry import errors
from reentry.likeness import alike
from reentry.modules import Entry, Module
from reentry.shorter import shorter, without
from reentry.statements import Attempt, If, While
from reentry.tables import Table
from tests.oracle import Maker
from tests.plain import Pair, are_alike, part_of_full, tables_of
from tests.test_likeness import read
from tests.values import check_error, values_other_than


def bodies_of(statement):
    if isinstance(statement, If):
        return [statement.body, statement.otherwise]
    if isinstance(statement, While):
        return [statement.body]
    return [statement.body, statement.handler] if isinstance(statement, Attempt) else []


def with_bodies(statement, bodies):
    if isinstance(statement, If):
        return If(statement.test, *bodies)
    if isinstance(statement, While):
        return While(statement.test, *bodies)
    return Attempt(*bodies)


def paths_in(body):
    """The ways to all statements of a body, in the sequence of their lines: the index of each one and the number of a body."""
    for index, statement in enumerate(body):
        yield (index,)
        for number, inside in enumerate(bodies_of(statement)):
            for path in paths_in(inside):
                yield (index, number) + path


def body_without(body, path):
    index = path[0]
    if len(path) == 1:
        return body[:index] + body[index + 1:]
    bodies = bodies_of(body[index])
    bodies[path[1]] = body_without(bodies[path[1]], path[2:])
    return body[:index] + (with_bodies(body[index], bodies),) + body[index + 1:]


def all_paths(module):
    return [(number,) + path for number, entry in enumerate(module.entries) for path in paths_in(entry.body)]


def module_without(module, path):
    """The module without the statement to which this way leads, built from its statements."""
    entries = list(module.entries)
    old = entries[path[0]]
    body = body_without(old.body, path[1:])
    entries[path[0]] = Entry(old.name, old.arguments, old.results, old.parameter, slots=old.slots, body=body)
    return Module(*entries, variables=module.variables, callouts=module.callouts)


def statement_lines(module):
    return [number for number, line in enumerate(module.lines) if line.split()[0] in ("assign", "if", "while", "call", "return", "fail", "attempt") and line[0] == " "]


def shorter_by_rounds(module, table, is_alike):
    """Point 24, word by word; and the number of rounds that left something out."""
    rounds, made, changed = 0, module, True
    while changed:
        changed, paths, at = False, all_paths(made), 0
        while at < len(paths):
            tried = module_without(made, paths[at])
            if is_alike(module, tried, table):
                # What stood inside is gone, too; the next one is the first behind it that is left.
                made, changed = tried, True
                paths = all_paths(made)
            else:
                at += 1
        rounds += changed
    return made, rounds


class TestWithout(unittest.TestCase):
    def check(self, module):
        """Check each line of a module; how many statements begin in them."""
        before = str(module)
        starts = statement_lines(module)
        paths = all_paths(module)
        self.assertEqual(len(starts), len(paths))
        for line in range(len(module.lines) + 2):
            if line in starts:
                made = without(module, line)
                self.assertIs(type(made), Module)
                self.assertEqual(str(made), str(module_without(module, paths[starts.index(line)])))
                self.assertEqual(made, without(line=line, module=module))
            else:
                check_error(self, errors.InvalidCount, {"value": line}, without, module, line)
        self.assertEqual(str(module), before)
        return len(starts)

    def test_drawn_modules(self):
        total = sum(self.check(Maker(seed).module()) for seed in range(200))
        total += sum(self.check(Maker(seed).nested_module()) for seed in range(20))
        self.assertGreater(total, 1000)

    def test_three_levels(self):
        made = read(
            "variable n 3 0", "callout c 1 1", "callout slot 1 1", "entry go 2 2 k", "  slot s 2", "  slot else 3", "  if k", "    attempt", "      call c 0 into s", "      fail",
            "    else", "      while s", "        assign s 0", "      return 1", "  else", "    if n", "    else", "      call slot n", "  assign else n", "  attempt", "  else",
            "    assign n 0", "  while k", "entry empty 1 1 z", "entry on 1 1 z", "  slot t 2", "  fail",
        )
        self.assertEqual(self.check(made), 14)
        self.assertEqual(without(made, 17).lines[14:17], ("  else", "    if n", "  assign else n"))
        self.assertEqual(without(made, 15).lines[13:15], ("      return 1", "  assign else n"))
        self.assertEqual(without(made, 6).lines[4:7], ("  slot s 2", "  slot else 3", "  assign else n"))
        self.assertEqual(without(made, 21).lines[18:21], ("  assign else n", "  attempt", "  while k"))
        self.assertEqual(without(made, 26).lines[-2:], ("entry on 1 1 z", "  slot t 2"))
        self.assertEqual(without(made, 11).lines[9:13], ("      fail", "    else", "      return 1", "  else"))

    def test_the_first_body_is_empty_then(self):
        made = read("entry go 2 2 k", "  if k", "    fail", "  else", "    return 1")
        self.assertEqual(without(made, 2).lines, ("entry go 2 2 k", "  if k", "  else", "    return 1"))
        self.assertEqual(without(made, 4).lines, ("entry go 2 2 k", "  if k", "    fail"))
        self.assertEqual(without(without(made, 2), 3).lines, ("entry go 2 2 k", "  if k"))
        self.assertEqual(without(made, 1).lines, ("entry go 2 2 k",))

    def test_other_values(self):
        made = read("variable n 2 0", "entry go 2 2 k", "  if k", "    fail", "  else", "    return n")
        for value in values_other_than(lambda value: False) + [-1, -2, True, 6, 10 ** 59, (2,), "2", "  if k"]:
            check_error(self, errors.InvalidCount, {"value": value}, without, made, value)
        check_error(self, errors.InvalidCount, {"value": True}, without, read("entry go 1 1 k", "  fail"), True)
        for value in values_other_than(lambda value: False) + [str(made)]:
            check_error(self, errors.NotAModule, {"value": value}, without, value, "x")


class TestShorter(unittest.TestCase):
    def check(self, module, lines, table=None):
        made = shorter(module, table)
        self.assertIs(type(made), Module)
        self.assertEqual(made.lines, tuple(lines))
        self.assertEqual(shorter(during=table, module=module), made)
        self.assertEqual(shorter(made, table), made)

    def test_drawn_modules(self):
        changed = again = kept = 0
        for seed in range(150):
            maker = Maker(seed + 3000)
            module = maker.module() if seed % 4 else maker.nested_module()
            table = part_of_full(module, maker.chance)
            if tables_of(module, table, 120) is None:
                continue
            with self.subTest(seed=seed):
                made, rounds = shorter_by_rounds(module, table, alike)
                self.check(module, made.lines, table)
                changed += rounds > 0
                again += rounds > 1
                kept += made.amount > 0
        self.assertGreater(changed, 60)
        self.assertGreater(again, 2)
        self.assertGreater(kept, 60)

    def test_against_a_plain_search(self):
        for seed in range(40):
            maker = Maker(seed + 5000)
            module = maker.module()
            table = part_of_full(module, maker.chance)
            if tables_of(Pair(module, module), table, 60) is not None and module.amount < 15:
                with self.subTest(seed=seed):
                    self.assertEqual(shorter(module, table), shorter_by_rounds(module, table, are_alike)[0])

    def test_needless_statements(self):
        self.check(read("entry go 1 2 z"), ["entry go 1 2 z"])
        self.check(read("entry go 1 2 z", "  return 0"), ["entry go 1 2 z"])
        self.check(read("entry go 1 2 z", "  assign z 0", "  return 1", "  fail"), ["entry go 1 2 z", "  return 1"])
        self.check(read("entry go 2 2 k", "  if k", "    return k", "  else", "    return k"), ["entry go 2 2 k", "  if k", "    return k"])
        self.check(read("entry go 2 2 k", "  slot s 2", "  while 0", "  if k", "    return 0", "  else", "    attempt", "      return 1"), ["entry go 2 2 k", "  slot s 2", "  if k", "  else", "    attempt", "      return 1"])
        self.check(read("entry go 2 2 k", "  attempt", "    while k", "      assign k 0", "    return k"), ["entry go 2 2 k"])

    def test_a_second_round(self):
        # The assignment is needed as long as the test behind it is there, which goes in the first round.
        module = read("variable n 2 0", "entry go 1 3 z", "  assign n 1", "  if not(n)", "    return 0", "  return 1")
        self.check(module, ["variable n 2 0", "entry go 1 3 z", "  return 1"])
        made, rounds = shorter_by_rounds(module, None, alike)
        self.assertEqual((made.amount, rounds), (1, 2))
        # Three rounds: each test is needed until the one behind it has gone.
        module = read(
            "variable n 2 0", "entry go 1 3 z", "  slot s 2", "  assign n 1", "  if n", "    assign s 1", "  if not(s)", "    return 0", "  return 1",
        )
        self.check(module, ["variable n 2 0", "entry go 1 3 z", "  slot s 2", "  return 1"])
        self.assertEqual(shorter_by_rounds(module, None, alike)[1], 2)

    def test_one_of_two_is_needed(self):
        # Either of the two is needless as long as the other one is there: the first one is left out.
        module = read("variable n 2 0", "entry go 1 2 z", "  assign n 1", "  assign n 1", "  return n")
        self.check(module, ["variable n 2 0", "entry go 1 2 z", "  assign n 1", "  return n"])
        module = read("variable n 2 0", "entry go 1 2 z", "  if n", "    return 1", "  if n", "    return 1", "  assign n 1")
        self.check(module, ["variable n 2 0", "entry go 1 2 z", "  if n", "    return 1", "  assign n 1"])

    def test_what_a_failure_leaves_out(self):
        # The variable is 0 again behind an answer, but not behind a failure: only the last statement is needless.
        module = read("variable n 3 0", "callout c 1 1", "entry go 1 3 z", "  assign n plus(n, 1)", "  call c 0", "  assign n 0", "  return n", "entry get 1 3 z", "  return n")
        self.check(module, module.lines[:6] + module.lines[7:])
        self.check(module, module.lines[:6] + module.lines[7:], Table())

    def test_guards_against_calls_back(self):
        module = read("variable busy 2 0", "callout c 1 1", "entry go 1 2 z", "  if busy", "    fail", "  assign busy 1", "  attempt", "    call c 0", "  assign busy 0", "  return 1")
        self.check(module, module.lines)
        self.check(module, module.lines, Table(("c", "go")))
        self.check(module, ("variable busy 2 0", "callout c 1 1", "entry go 1 2 z", "  attempt", "    call c 0", "  return 1"), Table())

    def test_what_was_given_stays(self):
        module = read("variable n 2 0", "entry go 1 3 z", "  assign n 1", "  return 1")
        before = str(module)
        shorter(module)
        self.assertEqual((str(module), module.amount), (before, 2))

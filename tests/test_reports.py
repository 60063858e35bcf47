import unittest

from reentry import errors
from reentry.depth import coming, depth_of, used_lines
from reentry.machines import Begun, Guarded, Layered, Watched
from reentry.modules import Module
from reentry.reports import listing, summary
from reentry.rules import Rule
from reentry.tables import Table
from tests.oracle import Maker, OracleSession
from tests.plain import HANG, Everything, Lengths, Search, moves_at, part_of_full, tables_of
from tests.test_depth import LOOSE, MIXED
from tests.test_likeness import COUNTER, read


def marks_of(text):
    """The marks of the lines of a listing, by their numbers."""
    return {int(line[:4]): line[5] for line in text.split("\n")}


def lines_of_plays(module, table, search):
    """The lines that the moves at all turns of short plays run, in the way of the generators."""
    lines, tops = set(), {}
    for (store, waiting), play in search.turns.items():
        tops.setdefault((waiting[-1][1] if waiting else None, store), (play, waiting))
    for play, waiting in tops.values():
        for move in moves_at(module, table, waiting):
            session = OracleSession(module)
            for step in play + (move,):
                session.call(*step[1:]) if step[0] == "call" else session.answer(step[1])
            lines |= session.oracle.lines
    return lines, set(tops)


class TestListing(unittest.TestCase):
    def check_form(self, module, table):
        text = listing(module, table)
        self.assertIs(type(text), str)
        self.assertEqual(text, listing(during=table, module=module))
        rows = text.split("\n")
        self.assertEqual(len(rows), len(module.lines))
        for number, (row, line) in enumerate(zip(rows, module.lines)):
            self.assertEqual(row[:5] + row[6:], str(number).rjust(4) + " " + " " + line)
            is_statement = line.startswith("  ") and line.split()[0] not in ("slot", "else")
            self.assertIn(row[5], "+-" if is_statement else " ")
        return marks_of(text)

    def test_drawn_modules(self):
        exact = less = 0
        for seed in range(120):
            maker = Maker(seed + 700)
            module = maker.nested_module() if seed % 3 == 0 else maker.module()
            table = part_of_full(module, maker.chance)
            if tables_of(module, table, 500) is None:
                continue
            with self.subTest(seed=seed):
                marks = self.check_form(module, table)
                used = {number for number, mark in marks.items() if mark == "+"}
                self.assertEqual(tuple(sorted(used)), used_lines(module, table))
                lines, tops = lines_of_plays(module, table, Search(module, table, 4))
                self.assertLessEqual(lines, used)
                if set(Lengths(module, table).turns) == tops:
                    self.assertEqual(lines, used)
                    exact += 1
                    less += "-" in marks.values()
        self.assertGreater(exact, 40)
        self.assertGreater(less, 20)

    def test_all_kinds_of_lines(self):
        made = read(
            "variable n 2 0", "callout c 1 1", "entry go 2 3 k", "  slot s 2", "  if 0", "    return 1", "  else", "    while k", "      assign k 0", "  attempt", "    call c 0",
            "    fail", "    assign n 1", "  else", "    assign s 1", "  if s", "  else", "    fail", "  return s", "  return n",
        )
        self.check_form(made, None)
        self.assertEqual(listing(made).split("\n"), [
            "   0   variable n 2 0", "   1   callout c 1 1", "   2   entry go 2 3 k", "   3     slot s 2", "   4 +   if 0", "   5 -     return 1", "   6     else",
            "   7 +     while k", "   8 +       assign k 0", "   9 +   attempt", "  10 +     call c 0", "  11 +     fail", "  12 -     assign n 1", "  13     else",
            "  14 +     assign s 1", "  15 +   if s", "  16     else", "  17 -     fail", "  18 +   return s", "  19 -   return n",
        ])

    def test_what_a_call_back_alone_runs(self):
        made = read("variable b 2 0", "callout c 1 1", "entry go 1 1 z", "  if b", "    fail", "  assign b 1", "  attempt", "    call c 0", "  assign b 0")
        self.assertEqual(marks_of(listing(made))[4], "+")
        self.assertEqual(marks_of(listing(made, Table()))[4], "-")
        self.assertEqual(listing(made).replace("   4 +", "   4 -"), listing(made, Table()))

    def test_names_like_words(self):
        made = read("variable else 2 0", "callout slot 1 1", "entry entry 1 2 if", "  slot call 2", "  assign else if", "  call slot call into else", "  return else")
        self.assertEqual([mark for _, mark in sorted(self.check_form(made, None).items())], [" ", " ", " ", " ", "+", "+", "+"])

    def test_many_lines(self):
        made = read("entry go 1 1 z", "  return 0", *["  assign z 0"] * 120)
        rows = listing(made).split("\n")
        self.assertEqual([rows[index] for index in (0, 1, 2, 9, 10, 99, 100, 121)], [
            "   0   entry go 1 1 z", "   1 +   return 0", "   2 -   assign z 0", "   9 -   assign z 0", "  10 -   assign z 0", "  99 -   assign z 0",
            " 100 -   assign z 0", " 121 -   assign z 0",
        ])

    def test_modules_alone(self):
        for machine in (Guarded(COUNTER), Begun(COUNTER, (1,)), Watched(COUNTER, Rule((), ()))):
            check = self.assertRaises(errors.NotAModule)
            with check:
                listing(machine)
            self.assertIs(check.exception.value, machine)


class TestSummary(unittest.TestCase):
    def check(self, machine, depth, hangs, outs, backs, table=None):
        expected = f"depth {depth}\nhangs {hangs}\nouts {outs}\nbacks {backs}"
        self.assertEqual(summary(machine, table), expected)
        self.assertEqual(summary(during=table, machine=machine), expected)

    def test_drawn_machines(self):
        words = {}
        for seed in range(300):
            maker = Maker(seed)
            machine = (maker.module, maker.machine, maker.nested_module)[seed % 3]()
            table = part_of_full(machine, maker.chance)
            if tables_of(machine, table, 500) is None:
                continue
            with self.subTest(seed=seed):
                found = Everything(machine, table).responses()
                self.assertEqual(tuple(sorted(found)), coming(machine, table))
                depth = depth_of(machine, table)
                counts = [len([response for response in found if response[0] == word]) for word in ("out", "back")]
                self.check(machine, "without end" if depth is None else depth, "yes" if HANG in found else "no", *counts, table)
                search = Search(machine, table, 4)
                self.assertLessEqual(set(search.ends), found)
                words[(depth, HANG in found)] = words.get((depth, HANG in found), 0) + 1
        for depth in (None, 0, 1):
            for hangs in (True, False):
                self.assertGreater(words.get((depth, hangs), 0), 3, words)

    def test_machines_of_each_kind(self):
        self.check(LOOSE, "without end", "no", 1, 2)
        self.check(LOOSE, 1, "no", 1, 2, Table())
        self.check(Guarded(LOOSE), 1, "no", 1, 2)
        self.check(COUNTER, "without end", "no", 4, 5)
        self.check(Begun(COUNTER, (3,)), 0, "no", 0, 1)
        self.check(Watched(COUNTER, Rule(((0, ("out", "changed"), 1),), (1,))), "without end", "no", 4, 5)
        upper = read("callout down 1 1", "entry go 1 5 z", "  attempt", "    call down 0", "    return 1", "  else", "    return 2")
        self.check(Layered(upper, LOOSE, (("down", "go"),)), "without end", "no", 1, 2)
        self.check(Layered(upper, Guarded(LOOSE), (("down", "go"),)), 1, "no", 1, 2)
        self.check(upper, "without end", "no", 1, 2)
        self.check(read("entry go 1 1 z", "  while 1"), 0, "yes", 0, 0)
        self.check(MIXED, depth_of(MIXED) if depth_of(MIXED) is not None else "without end", "yes", len([r for r in coming(MIXED) if r[0] == "out"]), len([r for r in coming(MIXED) if r[0] == "back"]))

    def test_different_responses(self):
        made = read("callout c 3 1", "callout d 3 1", "entry go 9 3 k", "  if below(k, 6)", "    call c k", "  call d k", "  return k", "entry on 9 9 k", "  return k")
        self.check(made, "without end", "no", 6, 10)
        self.check(made, 1, "no", 6, 10, Table())
        self.check(made, 1, "no", 6, 10, Table(("c", "on"), ("d", "on")))

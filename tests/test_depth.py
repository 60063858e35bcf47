import unittest

from reentry.depth import coming, deep_play, depth_of, play_to, used_lines
from reentry.machines import Begun, Guarded, Layered, Watched
from reentry.modules import Module
from reentry.plays import Play
from reentry.rules import Rule
from reentry.sessions import Session, responses_of
from reentry.tables import Table

HANG = ("hang",)


def read(*lines):
    return Module.read("\n".join(lines))


LOOSE = read("callout ask 1 1", "entry go 1 1 z", "  call ask 0")


def counting(most):
    """A module that counts the calls that wait, and takes no more than so many."""
    return read(
        f"variable d {most + 1} 0", "callout c 1 1", "entry go 1 1 z", f"  if equal(d, {most})", "    fail", "  assign d plus(d, 1)", "  attempt",
        "    call c 0", "  assign d minus(d, 1)",
    )


MIXED = read(
    "variable n 3 0", "callout a 2 3", "callout b 1 1", "entry x 2 4 k", "  slot s 3", "  if equal(n, 2)", "    return 3", "  attempt",
    "    call a k into s", "    if s", "      fail", "  else", "    assign n plus(n, 1)", "    return 1", "  return 2", "entry y 1 2 z", "  if not(n)",
    "    fail", "  call b 0", "  while equal(n, 2)", "  return 1",
)


class TestDepth(unittest.TestCase):
    def check(self, machine, depth, table=None, most=8):
        self.assertEqual(depth_of(machine, table), depth)
        self.assertEqual(depth_of(during=table, machine=machine), depth)
        for many in range(most):
            play = deep_play(machine, many, table)
            if depth is not None and many > depth:
                self.assertIsNone(play)
                continue
            self.assertIs(type(play), Play)
            session = Session(machine, table)
            for index in range(play.length):
                session(play.at(index))
            self.assertEqual((len(session.pending), session.is_over), (many, False))
            self.assertEqual(deep_play(during=table, depth=many, machine=machine).moves(), play.moves())

    def test_machines_without_a_depth(self):
        self.check(LOOSE, None)
        for many in (0, 1, 2, 99, 199, 200):
            self.assertEqual(deep_play(LOOSE, many).moves(), (("call", "go", 0),) * many)
        self.check(MIXED, None)
        self.check(Begun(MIXED, (1,)), None)
        self.check(Watched(LOOSE, Rule((), ())), None)

    def test_tables(self):
        self.check(LOOSE, 1, Table())
        two = read("callout a 1 1", "callout b 1 1", "entry x 1 1 z", "  call a 0", "entry y 1 1 z", "  call b 0", "entry w 1 1 z")
        for pairs, depth in (
            ((), 1), ((("a", "x"),), None), ((("a", "y"),), 2), ((("a", "y"), ("b", "x")), None), ((("a", "w"), ("b", "w")), 1), ((("b", "y"),), None),
            ((("b", "x"), ("b", "w")), 2),
        ):
            self.check(two, depth, Table(*pairs))

    def test_modules_that_count(self):
        for most in (0, 1, 2, 5, 30):
            self.check(counting(most), most)
            self.check(counting(most), min(most, 1), Table())
            self.check(Guarded(counting(most)), min(most, 1))
        self.assertEqual(deep_play(counting(30), 30).moves(), (("call", "go", 0),) * 30)
        self.assertIsNone(deep_play(counting(30), 31))
        self.assertIsNone(deep_play(counting(30), 200))
        self.check(Begun(counting(5), (2,)), 3)

    def test_machines_that_never_call_out(self):
        for machine in (read("entry go 1 1 z"), read("callout c 1 1", "entry go 1 1 z", "  while 1"), read("callout c 1 1", "entry go 1 1 z", "  if z", "    call c 0")):
            self.check(machine, 0)
            self.assertEqual(deep_play(machine, 0).moves(), ())

    def test_callouts_that_must_be_prepared(self):
        made = read(
            "variable n 4 0", "callout c 1 1", "entry up 1 1 z", "  assign n plus(n, 1)", "entry go 1 1 z", "  if equal(n, 3)", "    assign n 0",
            "    call c 0",
        )
        self.check(made, None, None, 4)
        for many in range(6):
            self.assertEqual(deep_play(made, many).length, 4 * many)
        self.check(made, 1, Table(("c", "go")))
        # The quickest way to a depth is not the one that goes deeper soonest.
        late = read(
            "variable n 3 0", "callout a 1 1", "callout b 1 1", "entry x 1 1 z", "  if not(n)", "    call a 0", "  if equal(n, 2)", "    call b 0",
            "entry y 1 1 z", "  assign n plus(n, 1)",
        )
        self.assertEqual([deep_play(late, many).length for many in range(5)], [0, 1, 2, 3, 4])
        table = Table(("b", "x"))
        self.assertEqual([deep_play(late, many, table).length for many in range(4)], [0, 1, 4, 5])
        self.assertIsNone(depth_of(late, table))

    def test_layers(self):
        upper = read("callout down 1 1", "callout out 1 1", "entry go 1 1 z", "  call down 0", "  call out 0")
        self.check(Layered(upper, LOOSE, (("down", "go"),)), None)
        self.check(Layered(upper, LOOSE, (("down", "go"),)), 1, Table())
        self.check(Layered(upper, Guarded(LOOSE), (("down", "go"),)), None)
        self.check(Layered(upper, Guarded(LOOSE), (("down", "go"),)), 1, Table(("ask", "go")))
        self.check(Layered(Guarded(upper), LOOSE, (("down", "go"),)), 1)


class TestResponses(unittest.TestCase):
    def check(self, machine, responses, table=None):
        found = coming(machine, table)
        self.assertEqual(found, tuple(responses))
        self.assertEqual(found, coming(during=table, machine=machine))
        self.assertEqual(list(found), sorted(found))
        for response in found:
            play = play_to(machine, response, table)
            self.assertIs(type(play), Play)
            self.assertEqual(responses_of(machine, play.moves(), table)[-1], response)
            self.assertEqual(play_to(during=table, response=response, machine=machine).moves(), play.moves())
        for response in (HANG, ("back", -1), ("back", 0), ("back", 40), ("back", 10 ** 59), ("out", "a", 0), ("out", "nothing", 0), ("out", "b", -1), ("back", -2)):
            self.assertIs(play_to(machine, response, table) is None, response not in found)

    def test_responses(self):
        backs = [("back", -1), ("back", 1), ("back", 2), ("back", 3)]
        outs = [("out", "a", 0), ("out", "a", 1), ("out", "b", 0)]
        self.check(MIXED, backs + [HANG] + outs)
        self.check(MIXED, backs + [HANG] + outs, Table(("b", "x")))
        self.check(MIXED, backs + [HANG] + outs, Table())
        self.check(Begun(MIXED, (2,)), [("back", -1), ("back", 3), HANG, ("out", "b", 0)])
        self.check(LOOSE, [("back", -1), ("back", 0), ("out", "ask", 0)])
        self.check(read("entry go 1 1 z"), [("back", 0)])
        self.check(read("entry go 1 1 z", "  while 1"), [HANG])
        self.check(read("entry go 2 1 z", "  fail"), [("back", -1)])

    def test_shortest_plays(self):
        for response, length in (
            (("out", "a", 1), 1), (("back", -1), 1), (("back", 2), 2), (("back", 1), 2), (("out", "b", 0), 3), (("back", 3), 5), (HANG, 6),
        ):
            self.assertEqual(play_to(MIXED, response).length, length)
        self.assertEqual(play_to(MIXED, HANG, Table()).length, 6)
        self.assertEqual(play_to(counting(9), ("back", -1)).length, 10)
        self.assertIsNone(play_to(counting(9), ("back", -1), Table()))
        self.assertEqual(play_to(LOOSE, ("out", "ask", 0)).moves(), (("call", "go", 0),))
        self.assertIsNone(play_to(LOOSE, ("out", "go", 0)))

    def test_guarded(self):
        self.check(Guarded(read("callout c 1 1", "entry go 1 1 z", "  attempt", "    call c 0")), [("back", -1), ("back", 0), ("out", "c", 0)])
        self.check(Guarded(read("callout c 1 1", "entry go 1 1 z", "  attempt", "    call c 0")), [("back", 0), ("out", "c", 0)], Table())

    def test_layers(self):
        upper = read("callout down 1 1", "entry go 1 5 z", "  attempt", "    call down 0", "    return 1", "  else", "    return 2")
        both = Layered(upper, LOOSE, (("down", "go"),))
        self.check(both, [("back", 1), ("back", 2), ("out", "ask", 0)])
        self.check(Layered(upper, Guarded(LOOSE), (("down", "go"),)), [("back", 1), ("back", 2), ("out", "ask", 0)])


class TestLines(unittest.TestCase):
    def check(self, module, lines, table=None):
        self.assertEqual(used_lines(module, table), tuple(lines))
        self.assertEqual(used_lines(during=table, module=module), tuple(lines))

    def test_all_kinds_of_statements(self):
        self.check(MIXED, (5, 6, 7, 8, 9, 10, 12, 13, 14, 16, 17, 18, 19, 20))
        self.assertEqual([MIXED.lines[line].strip() for line in (4, 11, 15)], ["slot s 3", "else", "entry y 1 2 z"])

    def test_tests_attempts_and_returns(self):
        made = read(
            "callout c 1 1", "entry go 2 3 k", "  if 0", "    return 1", "  else", "    if k", "      while 0", "        fail", "  attempt", "    if 1",
            "      assign k 1", "  else", "    assign k 0", "  return k", "  assign k 1", "  attempt", "    fail",
        )
        self.check(made, (2, 5, 6, 8, 9, 10, 13))
        made = read("entry go 1 1 z", "  attempt", "    fail", "    return 0", "  else", "    attempt", "    attempt", "      return 0", "    fail", "  fail")
        self.check(made, (1, 2, 5, 6, 7))
        self.check(read("entry go 1 1 z"), ())

    def test_answers(self):
        made = read(
            "callout c 1 2", "entry go 1 4 z", "  slot s 3", "  attempt", "    call c 0 into s", "    if equal(s, 2)", "      return 1", "    if s", "      return 2",
            "  else", "    return 3", "  return 0",
        )
        self.check(made, (3, 4, 5, 7, 8, 10, 11))
        self.check(read("callout c 1 1", "entry go 1 1 z", "  call c 0", "  attempt", "    call c 0"), (2, 3, 4))

    def test_calls_back(self):
        made = read("variable b 2 0", "callout c 1 1", "entry go 1 1 z", "  if b", "    fail", "  assign b 1", "  attempt", "    call c 0", "  assign b 0")
        self.check(made, (3, 4, 5, 6, 7, 8))
        self.check(made, (3, 5, 6, 7, 8), Table())
        other = read("variable b 2 0", "callout c 1 1", "callout d 1 1", "entry go 1 1 z", "  assign b 1", "  call c 0", "  assign b 0", "entry on 1 1 z", "  if b", "    call d 0")
        self.check(other, (4, 5, 6, 8, 9))
        self.check(other, (4, 5, 6, 8, 9), Table(("c", "on")))
        failing = read("variable b 2 0", "callout c 1 1", "entry go 1 1 z", "  assign b 1", "  attempt", "    call c 0", "  assign b 0", "entry on 1 1 z", "  if b", "    return 0")
        self.check(failing, (3, 4, 5, 6, 8), Table())
        self.check(failing, (3, 4, 5, 6, 8), Table(("c", "go")))
        self.check(failing, (3, 4, 5, 6, 8, 9), Table(("c", "on")))

    def test_hangs(self):
        made = read("variable n 3 0", "callout c 1 1", "entry go 1 1 z", "  call c 0", "  while 1", "    assign n plus(n, 1)", "    if equal(n, 2)", "      attempt", "        fail", "  return 0")
        self.check(made, (3, 4, 5, 6, 7, 8))
        self.check(read("entry go 1 1 z", "  while 1", "  return 0"), (1,))

    def test_lines_that_are_reached_late(self):
        made = read("variable n 40 0", "entry go 1 1 z", "  if equal(n, 39)", "    return 0", "  assign n plus(n, 1)", "entry on 1 1 z", "  if equal(n, 40)", "    fail")
        self.check(made, (2, 3, 4, 6))

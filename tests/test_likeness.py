import unittest

from reentry.likeness import alike, parting
from reentry.machines import Begun, Guarded, Layered, Watched
from reentry.modules import Module
from reentry.plays import Play, plays
from reentry.rules import Rule
from reentry.sessions import Session, responses_of
from reentry.tables import Table


def read(*lines):
    return Module.read("\n".join(lines))


HEAD = ("variable n 4 0", "callout c 4 3", "entry go 3 4 k")
TAIL = ("entry get 1 4 z", "  return n")
COUNTER = read(
    "variable n 4 0", "callout changed 4 2", "entry add 2 4 k", "  if below(n, 3)", "    assign n plus(n, k)", "    call changed n",
    "  return n", "entry get 1 4 z", "  return n",
)
EARLY = read(
    "variable n 4 0", "callout changed 4 2", "entry add 2 4 k", "  slot old 4", "  if below(n, 3)", "    assign n plus(n, k)",
    "    assign old n", "    call changed n", "    return old", "  return n", "entry get 1 4 z", "  return n",
)


class TestLikeness(unittest.TestCase):
    def check(self, one, other, table=None, length=None):
        """The machines are alike, or parted by plays with this length, in both directions."""
        for first, second in ((one, other), (other, one)):
            self.assertIs(alike(first, second, table), length is None)
            self.assertIs(alike(during=table, other=second, one=first), length is None)
            play = parting(first, second, table)
            if length is None:
                self.assertIsNone(play)
                self.assertIsNone(parting(during=table, other=second, one=first))
                continue
            self.assertIs(type(play), Play)
            self.assertEqual((play.length, repr(play)), (length, f"Play({length} moves)"))
            self.assertEqual(play.moves(), parting(during=table, other=second, one=first).moves())
            responses = [responses_of(machine, play.moves(), table) for machine in (first, second)]
            self.assertEqual(responses[0][:-1], responses[1][:-1])
            self.assertNotEqual(responses[0][-1], responses[1][-1])
            if length <= 4:
                for shorter in plays(first, length - 1, table):
                    self.assertEqual(responses_of(first, shorter, table), responses_of(second, shorter, table))

    def test_the_same_in_another_way(self):
        plain = read(*HEAD, "  call c n into n", "  if k", "    assign n plus(n, k)", "  return n", *TAIL)
        for body in (
            ("  call c n into n", "  assign n plus(n, k)", "  return n"),
            ("  call c plus(n, 4) into n", "  while k", "    assign n plus(n, 1)", "    assign k minus(k, 1)", "  return n"),
            ("  attempt", "    call c n into n", "  else", "    fail", "  assign n minus(n, minus(0, k))", "  return plus(n, 8)"),
            ("  slot s 4", "  attempt", "    call c n into s", "    assign n plus(s, k)", "    return n", "  else", "    fail"),
            ("  if equal(n, 7)", "    while 1", "  call c n into n", "  if not(not(k))", "    assign n plus(k, n)", "    return n", "  return n"),
        ):
            self.check(plain, read(*HEAD, *body, *TAIL))
        self.check(plain, plain)
        self.check(plain, read(*HEAD, "  call c n into n", "  if k", "    assign n plus(n, k)", "  return n", "entry get 1 4 any", "  return n"))

    def test_entries_and_variables_in_another_order(self):
        one = read("variable n 4 0", "callout b 1 1", "callout a 1 1", "entry x 1 4 z", "  call a 0", "entry y 1 4 z", "  call b 0")
        other = read("variable m 9 3", "variable l 2 0", "callout a 1 1", "callout b 1 1", "entry y 1 4 z", "  call b 0", "entry x 1 4 p", "  call a l")
        self.check(one, other)
        self.check(one, read("callout a 1 1", "callout b 1 1", "entry y 1 4 z", "  call a 0", "entry x 1 4 z", "  call b 0"), None, 1)

    def test_what_differs(self):
        plain = read(*HEAD, "  call c n into n", "  if k", "    assign n plus(n, k)", "  return n", *TAIL)
        for length, body in (
            (1, ("  call c plus(n, k) into n", "  assign n plus(n, k)", "  return n")), (1, ("  return 0",)), (1, ("  fail",)), (1, ("  while k", "  call c n into n")),
            (2, ("  call c n into n", "  assign n plus(n, k)", "  return plus(n, 1)")),
            (2, ("  attempt", "    call c n into n", "  assign n plus(n, k)", "  return n")),
            (2, ("  call c n into n", "  while k", "  return n")),
            (2, ("  call c n", "  return plus(n, k)")),
            (3, ("  slot s 4", "  call c n into s", "  return plus(s, k)")),
        ):
            self.check(plain, read(*HEAD, *body, *TAIL), None, length)

    def test_calls_back(self):
        self.check(COUNTER, EARLY, None, 4)
        self.check(COUNTER, EARLY, Table(("changed", "add")), 4)
        self.check(COUNTER, EARLY, Table(("changed", "get")))
        self.check(COUNTER, EARLY, Table())

    def test_what_a_call_back_sees(self):
        late = read("variable n 4 0", "callout c 1 1", "entry set 4 1 k", "  call c 0", "  assign n k", "entry get 1 4 z", "  return n")
        soon = read("variable n 4 0", "callout c 1 1", "entry set 4 1 k", "  slot s 4", "  assign s n", "  assign n k", "  attempt", "    call c 0", "  else", "    assign n s", "    fail", "entry get 1 4 z", "  return n")
        self.check(late, soon, None, 2)
        self.check(late, soon, Table(("c", "get")), 2)
        self.check(late, soon, Table(("c", "set")), 5)
        self.check(late, soon, Table())

    def test_hangs(self):
        one = read("variable n 3 0", "callout c 1 1", "entry go 1 1 z", "  assign n plus(n, 1)", "  call c 0", "  if equal(n, 0)", "    while 1")
        other = read("variable n 3 0", "callout c 1 1", "entry go 1 1 z", "  assign n plus(n, 1)", "  call c 0")
        self.check(one, other, None, 4)
        self.check(one, other, Table(), 6)
        self.check(one, one)
        spin = read("callout c 1 1", "entry go 1 1 z", "  while 1")
        self.check(spin, read("variable n 2 0", "callout c 1 1", "entry go 1 1 z", "  while 1", "    assign n not(n)"))
        self.check(spin, other, None, 1)

    def test_begun_machines(self):
        self.check(COUNTER, Begun(COUNTER, (0,)))
        for value, length in ((1, 1), (2, 1), (3, 1)):
            self.check(COUNTER, Begun(COUNTER, (value,)), None, length)
        unused = read("variable n 4 0", "callout changed 4 2", "entry add 2 4 k", "entry get 1 4 z")
        self.check(unused, Begun(unused, (3,)))
        self.check(Begun(COUNTER, (2,)), Begun(Begun(COUNTER, (1,)), (2,)))

    def test_guarded_machines(self):
        self.check(COUNTER, Guarded(COUNTER), None, 2)
        self.check(COUNTER, Guarded(COUNTER), Table())
        self.check(Guarded(COUNTER), Guarded(Guarded(COUNTER)))
        self.check(Guarded(COUNTER), Guarded(EARLY))
        busy = read(
            "variable busy 2 0", "callout ask 1 2", "entry go 1 2 z", "  if busy", "    fail", "  assign busy 1", "  attempt", "    call ask 0",
            "  else", "    assign busy 0", "    fail", "  assign busy 0", "  return 1",
        )
        loose = read("callout ask 1 2", "entry go 1 2 z", "  call ask 0", "  return 1")
        self.check(busy, Guarded(loose))
        self.check(busy, Guarded(busy))
        self.check(busy, loose, None, 2)
        self.check(busy, loose, Table())

    def test_watched_machines(self):
        rule = Rule(((0, ("out", "changed"), 1), (1, ("back", "add"), 2), (2, ("call", "get"), 3)), (3,))
        self.check(COUNTER, Watched(COUNTER, rule))
        self.check(Watched(COUNTER, Rule((), ())), Watched(Guarded(COUNTER), rule), None, 2)

    def test_layered_machines(self):
        upper = read("callout low 3 4", "callout c 1 1", "entry go 3 4 k", "  slot s 4", "  call low k into s", "  call c 0", "  return s")
        lower = read("variable n 4 0", "entry put 3 4 k", "  assign n plus(n, k)", "  return n")
        both = Layered(upper, lower, (("low", "put"),))
        one = read("variable n 4 0", "callout c 1 1", "entry go 3 4 k", "  slot s 4", "  assign n plus(n, k)", "  assign s n", "  call c 0", "  return s")
        self.check(both, one)
        self.check(both, read("variable n 4 0", "callout c 1 1", "entry go 3 4 k", "  assign n plus(n, k)", "  call c 0", "  return n"), None, 4)
        self.check(both, read("variable n 4 0", "callout c 1 1", "entry go 3 4 k", "  assign n plus(n, k)", "  call c 0", "  return n"), Table())
        failing = Layered(upper, read("variable n 4 0", "entry put 3 4 k", "  assign n plus(n, k)", "  if n", "    return n", "  fail"), (("low", "put"),))
        self.check(failing, both, None, 1)
        asking = Layered(
            upper, read("variable n 4 0", "callout d 1 1", "entry put 3 4 k", "  call d 0", "  assign n plus(n, k)", "  return n"), (("low", "put"),),
        )
        flat = read(
            "variable n 4 0", "callout c 1 1", "callout d 1 1", "entry go 3 4 k", "  slot s 4", "  attempt", "    call d 0", "  else", "    fail",
            "  assign n plus(n, k)", "  assign s n", "  call c 0", "  return s",
        )
        self.check(asking, flat)
        self.check(asking, Guarded(flat), None, 2)
        self.check(asking, Guarded(flat), Table())

    def test_long_parting_plays(self):
        for size in (10, 40):
            one = read(f"variable n {size} 0", "callout c 1 1", "entry go 1 1 z", "  assign n plus(n, 1)", "  if not(n)", "    call c 0")
            other = read("callout c 1 1", "entry go 1 1 z")
            self.check(one, other, None, size)
            self.assertEqual(parting(one, other).moves(), (("call", "go", 0),) * size)
        deep = read("variable n 30 0", "callout c 1 1", "entry go 1 1 z", "  if equal(n, 29)", "    fail", "  assign n plus(n, 1)", "  call c 0", "  assign n 0")
        self.check(deep, read("callout c 1 1", "entry go 1 1 z", "  call c 0"), None, 30)
        self.check(deep, read("callout c 1 1", "entry go 1 1 z", "  call c 0"), Table(), 59)

    def test_nothing_changes(self):
        session = Session(COUNTER)
        session.call("add", 1)
        before = (str(COUNTER), COUNTER.first, session.log)
        alike(COUNTER, EARLY, session.during)
        self.assertEqual((str(COUNTER), COUNTER.first, session.log), before)

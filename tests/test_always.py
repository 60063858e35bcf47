import unittest

from reentry.always import breach, holds_always, is_kept, violation
from reentry.expressions import Number, Variable, read_expression
from reentry.machines import Begun, Guarded, Layered, Watched
from reentry.modules import Module
from reentry.plays import Play, plays
from reentry.rules import Rule
from reentry.sessions import Session
from reentry.tables import Table

HANG = ("hang",)


def read(*lines):
    return Module.read("\n".join(lines))


COUNTER = read(
    "variable n 4 0", "callout changed 4 2", "entry add 2 4 k", "  if below(n, 3)", "    assign n plus(n, k)", "    call changed n",
    "  return n", "entry get 1 4 z", "  return n",
)
# The variable is 1 only while a callout is pending.
BUSY = read(
    "variable busy 2 0", "callout ask 1 1", "entry go 1 1 z", "  assign busy 1", "  attempt", "    call ask 0", "  assign busy 0",
    "entry stop 1 1 z", "  if busy", "    while 1",
)


class TestConditions(unittest.TestCase):
    def check(self, machine, text, length, table=None):
        """A shortest breach has this length; the condition holds always if it is None."""
        condition = read_expression(text)
        play = breach(machine, condition, table)
        self.assertIs(holds_always(machine, condition, table), length is None)
        self.assertIs(holds_always(during=table, condition=condition, machine=machine), length is None)
        if length is None:
            self.assertIsNone(play)
            self.assertIsNone(breach(during=table, condition=condition, machine=machine))
            return
        self.assertIs(type(play), Play)
        self.assertEqual(play.length, length)
        self.assertEqual(breach(during=table, condition=condition, machine=machine).moves(), play.moves())
        session = Session(machine, table)
        for index in range(length):
            session(play.at(index))
        names = [name for name, _, _ in machine.variables]
        self.assertEqual(condition.evaluate(dict(zip(names, session.shown))), 0)
        self.assertFalse(session.is_over)
        if length <= 5:
            for shorter in plays(machine, length - 1, table) if length else ():
                session = Session(machine, table)
                for move in shorter:
                    session(move)
                self.assertTrue(session.is_over or condition.evaluate(dict(zip(names, session.shown))))

    def test_conditions(self):
        self.check(COUNTER, "below(n, 4)", None)
        self.check(COUNTER, "below(n, 3)", 3)
        self.check(COUNTER, "below(n, 3)", 5, Table())
        self.check(COUNTER, "below(n, 3)", 5, Table(("changed", "get")))
        self.check(COUNTER, "below(n, 1)", 1)
        self.check(COUNTER, "not(equal(n, 2))", 2)

    def test_false_at_the_beginning(self):
        for text in ("n", "0", "minus(n, n)", "equal(n, 1)"):
            self.check(COUNTER, text, 0)
            self.check(COUNTER, text, 0, Table())
        self.assertEqual(breach(COUNTER, Variable("n")).moves(), ())
        self.check(Begun(COUNTER, (1,)), "n", None)
        self.check(Begun(COUNTER, (1,)), "equal(n, 1)", 1)

    def test_any_value_but_0_is_true(self):
        for text in ("7", "minus(n, 9)", "minus(0, 3)", "plus(n, 1)"):
            self.check(COUNTER, text, None)
        self.check(COUNTER, "minus(n, 1)", 1)
        self.check(COUNTER, "minus(2, n)", 2)
        self.assertIs(holds_always(COUNTER, Number(999)), True)
        self.check(read("entry go 1 1 z"), "1", None)
        self.check(read("entry go 1 1 z"), "0", 0)

    def test_moments_that_count(self):
        self.check(BUSY, "not(busy)", 1)
        self.check(BUSY, "not(busy)", 1, Table())
        # What happens between two turns, or before a hang, is not seen.
        between = read("variable n 5 0", "callout c 1 1", "entry go 1 1 z", "  assign n 1", "  assign n 0", "  call c 0", "  assign n 2", "  assign n 0")
        self.check(between, "equal(n, 0)", None)
        hanging = read("variable n 5 0", "callout c 1 1", "entry go 2 1 k", "  if k", "    assign n 1", "    while 1", "  call c 0", "  assign n 1", "  while 1")
        self.check(hanging, "equal(n, 0)", None)

    def test_all_variables_and_depths(self):
        deep = read(
            "variable d 6 0", "variable most 6 0", "callout c 1 1", "entry go 1 1 z", "  if equal(d, 5)", "    fail", "  assign d plus(d, 1)",
            "  assign most choose(below(most, d), d, most)", "  attempt", "    call c 0", "  assign d minus(d, 1)",
        )
        self.check(deep, "either(below(d, most), equal(d, most))", None)
        self.check(deep, "below(d, 5)", 5)
        self.check(deep, "below(d, 2)", None, Table())
        self.check(deep, "not(both(equal(d, 0), equal(most, 3)))", 6)
        self.check(deep, "not(both(equal(d, 4), equal(most, 5)))", 6)

    def test_other_machines(self):
        self.check(Guarded(COUNTER), "below(n, 3)", 5)
        self.check(Guarded(COUNTER), "below(n, 4)", None)
        self.check(Watched(COUNTER, Rule((), ())), "below(n, 3)", 3)
        upper = read("variable m 3 0", "callout store 2 4", "entry twice 1 4 z", "  assign m 0", "  call store 1", "  assign m 1", "  call store 1", "  assign m 2")
        both = Layered(upper, COUNTER, (("store", "add"),))
        self.check(both, "below(m, 3)", None)
        self.check(both, "not(equal(n, 2))", 2)
        self.check(both, "not(both(equal(m, 2), equal(n, 3)))", 5, Table())
        self.check(both, "either(not(equal(m, 0)), below(n, 3))", 3)


class TestRules(unittest.TestCase):
    def check(self, machine, rule, length, table=None):
        """A shortest violation has this length; the rule is kept if it is None."""
        play = violation(machine, rule, table)
        self.assertIs(is_kept(machine, rule, table), length is None)
        self.assertIs(is_kept(during=table, rule=rule, machine=machine), length is None)
        if length is None:
            self.assertIsNone(play)
            return
        self.assertIs(type(play), Play)
        self.assertEqual(play.length, length)
        self.assertEqual(violation(during=table, rule=rule, machine=machine).moves(), play.moves())
        self.assertIn(self.state_behind(machine, rule, play.moves(), table), rule.bad)
        if length <= 4:
            for shorter in plays(machine, length - 1, table) if length else ():
                self.assertNotIn(self.state_behind(machine, rule, shorter, table), rule.bad)

    def state_behind(self, machine, rule, moves, table):
        """The state of a rule behind a play, which is led along with full events."""
        session, state, entries = Session(machine, table), 0, []
        for move in moves:
            before = session.pending
            response = session(move)
            if move[0] == "call":
                entries.append(move[1])
            state = rule.after(state, move if move[0] == "call" else ("answer", before[-1], move[1]))
            state = rule.after(state, ("back", entries.pop(), response[1]) if response[0] == "back" else response)
        return state

    def test_rules(self):
        nested = Rule(((0, ("out", "changed"), 1), (1, ("out", "changed"), 2), (1, ("back", "add"), 0)), (2,))
        self.check(COUNTER, nested, 2)
        self.check(COUNTER, nested, None, Table())
        self.check(COUNTER, nested, None, Table(("changed", "get")))
        self.check(Guarded(COUNTER), Rule(((0, ("out", "changed"), 1), (1, ("out", "changed"), 2), (1, ("answer", "changed"), 0)), (2,)), None)
        self.check(COUNTER, Rule((), ()), None)
        self.check(COUNTER, Rule((), (1, 99)), None)

    def test_a_bad_first_state(self):
        for rule in (Rule((), (0,)), Rule(((0, ("call", "add"), 1),), (0,)), Rule((), (3, 0))):
            for machine in (COUNTER, Guarded(COUNTER), BUSY):
                for table in (None, Table()):
                    self.check(machine, rule, 0, table)
                    self.assertEqual(violation(machine, rule, table).moves(), ())

    def test_events_with_and_without_values(self):
        for event, length in (
            (("call", "add"), 1), (("call", "add", 1), 1), (("call", "add", 2), None), (("call", "set"), None), (("out", "changed"), 1),
            (("out", "changed", 0), 1), (("out", "changed", 1), 1), (("out", "changed", 2), 2), (("out", "changed", 3), 3), (("out", "changed", 4), None),
            (("back", "get"), 1), (("back", "get", 0), 1), (("back", "get", 1), 2), (("back", "add"), 2), (("back", "add", 1), 2), (("back", "add", 2), 3),
            (("back", "add", -1), 2), (("back", "get", -1), None), (("answer", "changed"), 2), (("answer", "changed", -1), 2), (("answer", "changed", 1), 2),
            (("answer", "changed", 2), None), (("answer", "add"), None), (("hang",), None), (("back", "add", 3), 4),
        ):
            self.check(COUNTER, Rule(((0, event, 7),), (7,)), length)

    def test_the_first_step_that_fits(self):
        steps = ((0, ("call", "add", 0), 1), (0, ("call", "add"), 2), (1, ("call", "add"), 3), (2, ("call", "add", 1), 3))
        self.check(COUNTER, Rule(steps, (2,)), 1)
        self.check(COUNTER, Rule(steps, (1,)), 1)
        self.check(COUNTER, Rule(steps, (3,)), 2)
        self.check(COUNTER, Rule((steps[1], steps[0]), (1,)), None)

    def test_states_after_a_move(self):
        # Behind the response the state is another one, unless it is bad already.
        back = Rule(((0, ("call", "get"), 1), (1, ("back", "get"), 0)), (1,))
        self.check(COUNTER, back, 1)
        self.check(COUNTER, Rule(back.steps, (2,)), None)
        answered = Rule(((0, ("answer", "changed", 1), 1), (1, ("back", "add"), 0)), (1,))
        self.check(COUNTER, answered, 2)

    def test_hangs(self):
        self.check(BUSY, Rule(((0, HANG, 1),), (1,)), 2)
        self.check(BUSY, Rule(((0, HANG, 1),), (1,)), None, Table())
        self.check(BUSY, Rule(((0, HANG, 1),), (1,)), None, Table(("ask", "go")))
        self.check(BUSY, Rule(((0, ("call", "stop"), 1), (1, ("back", "stop"), 0)), (1,)), 1)
        self.check(BUSY, Rule(((0, ("call", "stop"), 1), (1, ("back", "stop"), 0), (1, HANG, 2)), (2,)), 2)
        self.check(BUSY, Rule(((0, ("call", "go"), 1), (1, ("call", "stop"), 2), (2, HANG, 3)), (3,)), 2)
        self.check(BUSY, Rule(((0, ("call", "go"), 1), (1, ("call", "stop"), 2)), (2,)), 2)
        self.check(BUSY, Rule(((0, HANG, 1), (1, ("call", "go"), 2)), (2,)), None)
        late = read("callout c 1 2", "entry go 1 1 z", "  slot s 2", "  call c 0 into s", "  while s")
        self.check(late, Rule(((0, ("answer", "c", 1), 1), (1, HANG, 2)), (2,)), 2)
        self.check(late, Rule(((0, ("answer", "c", 0), 1), (1, HANG, 2)), (2,)), 4)
        self.check(late, Rule(((0, ("answer", "c", 0), 1), (1, ("back", "go"), 0), (1, HANG, 2)), (2,)), None)
        self.check(late, Rule(((0, ("answer", "c", 1), 1),), (1,)), 2)
        self.check(late, Rule(((0, HANG, 1), (0, ("back", "go", -1), 1)), (1,)), 2)

    def test_other_machines(self):
        rule = Rule(((0, ("back", "add", -1), 1),), (1,))
        self.check(COUNTER, rule, 2)
        self.check(Guarded(COUNTER), rule, 2)
        self.check(Watched(COUNTER, Rule(((0, ("call", "get"), 1),), (1,))), rule, 2)
        upper = read("callout store 2 4", "entry twice 1 4 z", "  call store 1", "  call store 1", "  return 3")
        both = Layered(upper, COUNTER, (("store", "add"),))
        self.check(both, Rule(((0, ("out", "changed", 3), 1), (0, ("out", "store"), 1), (0, ("call", "add"), 1)), (1,)), 3)
        self.check(both, Rule(((0, ("out", "changed", 3), 1),), (1,)), 4, Table())
        self.check(both, Rule(((0, ("back", "twice", -1), 1),), (1,)), 2)

    def test_nothing_changes(self):
        rule = Rule(((0, ("call", "add"), 1),), (1,))
        for _ in range(2):
            self.assertEqual(violation(COUNTER, rule).length, 1)
        self.assertEqual((rule.steps, rule.bad), (((0, ("call", "add"), 1),), (1,)))

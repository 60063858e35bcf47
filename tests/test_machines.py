import unittest

from reentry import errors
from reentry.machines import Begun, Guarded, Layered, Machine, Watched
from reentry.modules import Entry, Module
from reentry.rules import Rule
from tests.values import any_values, check_error, values_other_than

HANG = ("hang",)

COUNTER = Module.read(
    "variable n 4 0\ncallout changed 4 2\nentry add 2 4 k\n  if below(n, 3)\n    assign n plus(n, k)\n"
    "    call changed n\n  return n\nentry get 1 4 z\n  return n"
)
TWICE = Module.read("callout store 2 4\nentry twice 1 4 z\n  call store 1\n  call store 1\n  return 3")
ASKER = Module.read(
    "variable last 3 2\ncallout ask 2 3\ncallout tell 1 1\nentry go 2 5 k\n  slot got 3\n  attempt\n"
    "    call ask k into got\n  else\n    return 4\n  assign last got\n  call tell 0\n  return plus(got, k)\n"
    "entry spin 1 1 z\n  assign last 0\n  while 1"
)
TICK = Module.read("variable t 3 0\ncallout note 1 1\nentry tick 1 3 z\n  assign t plus(t, 1)\n  return t")


def read(*lines):
    return Module.read("\n".join(lines))


def values_but(most, least=0):
    """Values that are no integers from `least` to `most`."""
    return values_other_than(lambda v: type(v) is int and least <= v <= most) + [most + 1, least - 1]


class TestModules(unittest.TestCase):
    def test_calls_and_answers(self):
        for enter, resume in (
            (COUNTER.enter, COUNTER.resume),
            (lambda s, e, v: COUNTER.enter(store=s, entry=e, value=v), lambda s, f, a: COUNTER.resume(store=s, frame=f, answer=a)),
        ):
            self.assertEqual(enter((1,), "add", 1), (("out", "changed", 2), (2,), (5, (1,))))
            self.assertEqual(enter((3,), "add", 1), (("back", 3), (3,), None))
            self.assertEqual(enter((2,), "get", 0), (("back", 2), (2,), None))
            self.assertEqual(resume((3,), (5, (1,)), 0), (("back", 3), (3,), None))
            self.assertEqual(resume((0,), (5, (0,)), 1), (("back", 0), (0,), None))
            self.assertEqual(resume((2,), (5, (1,)), -1), (("back", -1), (2,), None))

    def test_face_variables_and_first_store(self):
        self.assertEqual(ASKER.face.entries, (("go", 2, 5), ("spin", 1, 1)))
        self.assertEqual(ASKER.face.callouts, (("ask", 2, 3), ("tell", 1, 1)))
        self.assertEqual((ASKER.variables, ASKER.first, ASKER.values_in((1,))), ((("last", 3, 2),), (2,), (1,)))
        self.assertEqual(ASKER.values_in(store=(0,)), (0,))
        self.assertEqual((TWICE.variables, TWICE.first), ((), ()))

    def test_faces_are_equal_if_entries_and_callouts_are(self):
        one = read("variable n 2 0", "callout b 1 2", "callout a 3 4", "entry y 1 2 k", "entry x 2 1 k", "  return n")
        other = read("callout a 3 4", "callout b 1 2", "entry x 2 1 z", "  call b 0", "entry y 1 2 z")
        self.assertEqual(one.face, other.face)
        self.assertIs(one.face != other.face, False)
        for lines in (
            ("callout a 3 4", "callout b 1 2", "entry x 2 1 z"),
            ("callout a 3 4", "entry x 2 1 z", "entry y 1 2 z"),
            ("callout a 3 4", "callout b 2 2", "entry x 2 1 z", "entry y 1 2 z"),
            ("callout a 3 4", "callout b 1 1", "entry x 2 1 z", "entry y 1 2 z"),
            ("callout a 3 4", "callout b 1 2", "entry x 2 2 z", "entry y 1 2 z"),
            ("callout a 3 4", "callout b 1 2", "entry x 1 1 z", "entry y 1 2 z"),
            ("callout a 3 4", "callout c 1 2", "entry x 2 1 z", "entry y 1 2 z"),
        ):
            self.assertIs(one.face == read(*lines).face, False)
            self.assertIs(one.face != read(*lines).face, True)
        for value in (None, (one.face.entries, one.face.callouts), 1, one):
            self.assertIs(one.face == value, False)

    def test_moduli(self):
        made = read(
            "variable n 3 0", "callout c 4 9", "entry go 5 7 k", "  assign n minus(0, k)", "  call c minus(n, 4) into n",
            "  return minus(n, 9)",
        )
        self.assertEqual(made.enter((0,), "go", 1), (("out", "c", 2), (2,), (4, (1,))))
        self.assertEqual(made.resume((2,), (4, (1,)), 8), (("back", 0), (2,), None))
        self.assertEqual(made.resume((2,), (4, (1,)), 3), (("back", 5), (0,), None))

    def test_failing(self):
        made = read(
            "variable n 9 0", "callout c 1 2", "entry go 4 9 k", "  slot s 2", "  attempt", "    assign n 1", "    if equal(k, 0)",
            "      fail", "    attempt", "      call c 0 into s", "    else", "      assign n plus(n, 4)", "      if equal(k, 1)",
            "        fail", "      call c 0", "    return 2", "  else", "    assign n plus(n, 2)", "    if equal(k, 2)", "      fail",
            "  return 5",
        )
        self.assertEqual(made.enter((0,), "go", 0), (("back", 5), (3,), None))
        self.assertEqual(made.enter((0,), "go", 1), (("out", "c", 0), (1,), (9, (1, 0))))
        self.assertEqual(made.resume((1,), (9, (1, 0)), 1), (("back", 2), (1,), None))
        self.assertEqual(made.resume((1,), (9, (1, 0)), -1), (("back", 5), (7,), None))
        self.assertEqual(made.resume((1,), (9, (2, 0)), -1), (("out", "c", 0), (5,), (14, (2, 0))))
        self.assertEqual(made.resume((5,), (14, (2, 0)), -1), (("back", -1), (7,), None))
        self.assertEqual(made.resume((5,), (14, (3, 1)), -1), (("back", 5), (7,), None))
        self.assertEqual(made.resume((5,), (14, (3, 1)), 0), (("back", 2), (5,), None))

    def test_failing_in_inner_bodies(self):
        made = read(
            "variable n 9 0", "entry go 5 9 k", "  attempt", "    if equal(k, 0)", "      fail", "    else", "      if equal(k, 1)",
            "      else", "        assign n 3", "        if equal(k, 2)", "          fail", "    attempt", "      fail", "    else",
            "      assign n plus(n, 1)", "      if equal(k, 3)", "        fail", "  else", "    assign n plus(n, 4)", "  return n",
        )
        results = [made.enter((0,), "go", value)[0][1] for value in range(5)]
        self.assertEqual(results, [4, 1, 7, 8, 4])

    def test_a_failure_keeps_the_name_and_a_body_that_ends_returns_0(self):
        made = read("variable n 3 1", "callout c 1 3", "entry go 1 3 z", "  call c 0 into n")
        self.assertEqual(made.resume((1,), (3, (0,)), 2), (("back", 0), (2,), None))
        self.assertEqual(made.resume((1,), (3, (0,)), -1), (("back", -1), (1,), None))

    def test_lines_with_else_and_several_entries(self):
        made = read(
            "callout c 3 1", "entry a 2 1 z", "  if z", "  else", "    call c 0", "  attempt", "    fail", "  else", "    call c 1",
            "entry b 1 1 z", "  slot s 2", "  call c 2",
        )
        self.assertEqual(made.enter((), "a", 0), (("out", "c", 0), (), (4, (0,))))
        self.assertEqual(made.enter((), "a", 1), (("out", "c", 1), (), (8, (1,))))
        self.assertEqual(made.resume((), (4, (0,)), 0), (("out", "c", 1), (), (8, (0,))))
        self.assertEqual(made.enter((), "b", 0), (("out", "c", 2), (), (11, (0, 0))))

    def test_a_frame_has_the_parameter_and_the_slots(self):
        made = read(
            "callout c 1 1", "entry go 3 9 k", "  slot a 4", "  slot b 5", "  assign b 4", "  assign k plus(k, 1)", "  call c 0",
            "  return plus(k, plus(a, b))",
        )
        self.assertEqual(made.enter((), "go", 2), (("out", "c", 0), (), (6, (0, 0, 4))))
        self.assertEqual(made.resume((), (6, (2, 1, 3)), 0), (("back", 6), (), None))

    def test_loops(self):
        made = read(
            "variable n 40 0", "variable m 40 0", "entry go 2 40 k", "  while either(n, m)", "    if n", "      assign n minus(n, 1)",
            "    else", "      assign n times(39, k)", "      assign m minus(m, 1)", "  return 7", "entry up 1 1 z", "  while 1",
            "    assign n plus(n, 1)",
        )
        self.assertEqual(made.enter((39, 39), "go", 0), (("back", 7), (0, 0), None))
        self.assertEqual(made.enter((39, 39), "go", 1), (("back", 7), (0, 0), None))
        self.assertEqual(made.enter((3, 0), "go", 1), (("back", 7), (0, 0), None))
        self.assertEqual(made.enter((5, 6), "up", 0), (HANG, (5, 6), None))

    def test_loops_that_are_left(self):
        made = read("variable n 5 0", "entry go 1 5 z", "  while 1", "    assign n plus(n, 1)", "    if equal(n, 4)", "      return n")
        self.assertEqual(made.enter((0,), "go", 0), (("back", 4), (4,), None))
        self.assertEqual(made.enter((4,), "go", 0), (("back", 4), (4,), None))
        made = read("entry go 1 5 z", "  attempt", "    while 1", "      fail", "  else", "    return 3")
        self.assertEqual(made.enter((), "go", 0), (("back", 3), (), None))

    def test_a_loop_that_calls_out_does_not_hang(self):
        made = read("callout c 1 1", "entry go 1 1 z", "  while 1", "    attempt", "      call c 0")
        first = made.enter((), "go", 0)
        self.assertEqual(first, (("out", "c", 0), (), (4, (0,))))
        self.assertEqual([made.resume((), first[2], answer) for answer in (0, -1)], [first, first])
        made = read("callout c 1 1", "entry go 1 1 z", "  while 1", "    attempt", "      call c 0", "    else", "      while 1")
        self.assertEqual(made.resume((), (4, (0,)), -1), (HANG, (), None))

    def test_the_same_test_in_another_place_is_no_hang(self):
        made = read("variable n 2 0", "entry go 1 5 z", "  while n", "  while n", "  while 0", "    fail", "  return 3")
        self.assertEqual(made.enter((0,), "go", 0), (("back", 3), (0,), None))

    def test_answers_after_a_hang_leave_the_store(self):
        made = read("variable n 5 0", "callout c 1 1", "entry go 1 1 z", "  call c 0", "  assign n 3", "  while 1")
        self.assertEqual(made.resume((2,), (3, (0,)), 0), (HANG, (2,), None))


def all_kinds():
    rule = Rule((), ())
    lower = Layered(TWICE, COUNTER, (("store", "add"),))
    return [
        COUNTER, ASKER, Begun(COUNTER, (2,)), Guarded(COUNTER), Watched(COUNTER, rule), lower, Guarded(lower),
        Begun(Guarded(Watched(COUNTER, rule)), (1,)), Watched(Begun(lower, (1,)), rule), Layered(ASKER, Guarded(TICK), ()),
    ]


class TestAllKinds(unittest.TestCase):
    def test_kinds(self):
        for machine in all_kinds():
            self.assertIsInstance(machine, Machine)
            self.assertEqual(sum(isinstance(machine, kind) for kind in (Module, Begun, Guarded, Layered, Watched)), 1)
        for name in ("enter", "resume", "values_in"):
            self.assertIn(name, vars(Machine))
        self.assertTrue(issubclass(Module, Machine))

    def test_machines_other_than_modules_are_equal_to_themselves_alone(self):
        first, second = all_kinds(), all_kinds()
        for index, machine in enumerate(first):
            self.assertIs(machine == machine, True)
            self.assertIs(machine == second[index], isinstance(machine, Module))
            for other in (None, machine.face, "x", 1, True):
                self.assertIs(machine == other, False)
            self.assertTrue(machine)

    def test_wrong_entries_and_values(self):
        for machine in all_kinds():
            entry = machine.face.entries[0]
            stores = [machine.first]
            response, store, frame = machine.enter(machine.first, entry[0], 0)
            stores.append(store)
            for store in stores:
                for value in any_values() + ["changed", "store", "nine9nine", Entry, COUNTER.entries[0], entry]:
                    for wrong in (0, True, "x"):
                        check_error(self, errors.InvalidName, {"value": value}, machine.enter, store, value, wrong)
                    check_error(self, errors.InvalidName, {"value": value}, machine.enter, value=-1, entry=value, store=store)
                for name, arguments, _ in machine.face.entries:
                    for value in values_but(arguments - 1):
                        check_error(self, errors.InvalidValue, {"value": value}, machine.enter, store, name, value)

    def test_wrong_answers(self):
        for machine in all_kinds():
            entry = machine.face.entries[0][0]
            response, store, frame = machine.enter(machine.first, entry, machine.face.entries[0][1] - 1)
            self.assertEqual(response[0], "out")
            answers = {name: many for name, _, many in machine.face.callouts}[response[1]]
            for value in values_but(answers - 1, -1):
                check_error(self, errors.InvalidValue, {"value": value}, machine.resume, store, frame, value)
                check_error(self, errors.InvalidValue, {"value": value}, machine.resume, answer=value, frame=frame, store=store)
            for value in range(-1, answers):
                self.assertEqual(len(machine.resume(store, frame, value)), 3)

    def test_values_that_are_no_machines(self):
        rule = Rule((), ())
        for value in values_other_than(lambda v: isinstance(v, Machine)) + [Module, Machine, str(COUNTER), COUNTER.face]:
            fields = {"value": value}
            check_error(self, errors.NotAMachine, fields, Begun, value, 5)
            check_error(self, errors.NotAMachine, fields, Begun, values=(0,), machine=value)
            check_error(self, errors.NotAMachine, fields, Guarded, value)
            check_error(self, errors.NotAMachine, fields, Guarded, machine=value)
            check_error(self, errors.NotAMachine, fields, Watched, value, 5)
            check_error(self, errors.NotAMachine, fields, Watched, rule=rule, machine=value)
            check_error(self, errors.NotAMachine, fields, Layered, value, 5, 5)
            check_error(self, errors.NotAMachine, fields, Layered, COUNTER, value, 5)
            check_error(self, errors.NotAMachine, fields, Layered, wires=[], lower=value, upper=COUNTER)


class TestBegun(unittest.TestCase):
    def test_first_store(self):
        for made in (Begun(COUNTER, (3,)), Begun(machine=COUNTER, values=(3,))):
            self.assertEqual((made.variables, made.values_in(made.first)), ((("n", 4, 3),), (3,)))
            self.assertEqual(made.face, COUNTER.face)
            self.assertIs(type(made.first), tuple)
            self.assertEqual(made.enter(made.first, "get", 0)[0], ("back", 3))
        again = Begun(Begun(COUNTER, (3,)), (1,))
        self.assertEqual((again.variables, again.enter(again.first, "get", 0)[0]), ((("n", 4, 1),), ("back", 1)))
        self.assertEqual(Begun(TWICE, ()).variables, ())

    def test_over_other_machines(self):
        layered = Layered(ASKER, TICK, ())
        made = Begun(layered, (1, 2))
        self.assertEqual((made.values_in(made.first), made.first), ((1, 2), Begun(layered, (1, 2)).first))
        self.assertEqual(made.variables, (("last", 3, 1), ("t", 3, 2)))
        guarded = Begun(Guarded(COUNTER), (2,))
        self.assertEqual(guarded.values_in(guarded.first), (2,))
        self.assertEqual(guarded.first, Guarded(COUNTER).enter(Guarded(Begun(COUNTER, (2,))).first, "get", 0)[1])

    def test_a_rule_within_begins_in_state_0(self):
        watched = Watched(COUNTER, Rule(((0, ("call", "get"), 1),), ()))
        for made in (Begun(watched, (2,)), Begun(Guarded(watched), (2,)), Begun(Begun(watched, (1,)), (2,)), Begun(Layered(watched, TICK, ()), (2, 1))):
            self.assertNotEqual(made.enter(made.first, "get", 0)[1], made.first)
            store = made.enter(made.first, "get", 0)[1]
            self.assertEqual(made.enter(store, "get", 0)[1], store)
        kept = Begun(Watched(COUNTER, Rule(((1, ("call", "get"), 0), (99, ("call", "get"), 0)), ())), (2,))
        self.assertEqual(kept.enter(kept.first, "get", 0)[1], kept.first)

    def test_plays_like_the_other_machine(self):
        made = Begun(COUNTER, (2,))
        response, store, frame = made.enter(made.first, "add", 1)
        self.assertEqual((response, made.values_in(store)), (("out", "changed", 3), (3,)))
        self.assertEqual(made.enter(store, "add", 1)[0], ("back", 3))
        self.assertEqual(made.resume(store, frame, 1)[0], ("back", 3))
        self.assertEqual(made.resume(store, frame, -1)[0], ("back", -1))

    def test_wrong_values(self):
        two = read("variable n 4 0", "variable m 2 1", "entry go 1 1 z")
        for value in values_other_than(lambda v: isinstance(v, tuple)) + [(), (0,), (0, 0, 0), [0, 0], (9, 9, 9)]:
            check_error(self, errors.InvalidStore, {"index": None}, Begun, two, value)
            check_error(self, errors.InvalidStore, {"index": None}, Begun, values=value, machine=two)
        for value in values_but(3):
            check_error(self, errors.InvalidStore, {"index": 0}, Begun, two, (value, 7))
        for value in values_but(1):
            check_error(self, errors.InvalidStore, {"index": 1}, Begun, two, (3, value))
        for value in (None, 0, (0,), [], [()]):
            check_error(self, errors.InvalidStore, {"index": None}, Begun, TWICE, value)


class TestGuarded(unittest.TestCase):
    def test_like_the_other_machine(self):
        for made in (Guarded(COUNTER), Guarded(machine=COUNTER)):
            self.assertEqual((made.face, made.variables), (COUNTER.face, COUNTER.variables))
            self.assertEqual((made.values_in(made.first), type(made.first)), ((0,), tuple))
            response, store, frame = made.enter(made.first, "add", 1)
            self.assertEqual((response, made.values_in(store)), (("out", "changed", 1), (1,)))
            response, store, frame = made.resume(store, frame, 0)
            self.assertEqual((response, made.values_in(store), frame), (("back", 1), (1,), None))
            self.assertEqual(made.enter(store, "get", 0), (("back", 1), store, None))

    def test_calls_while_a_callout_waits(self):
        made = Guarded(COUNTER)
        _, store, frame = made.enter(made.first, "add", 1)
        for entry, value in (("add", 0), ("add", 1), ("get", 0)):
            self.assertEqual(made.enter(store, entry, value), (("back", -1), store, None))
        for answer in (-1, 0, 1):
            behind = made.resume(store, frame, answer)[1]
            self.assertEqual(made.enter(behind, "get", 0)[0], ("back", 1))

    def test_a_callout_after_an_answer_waits_again(self):
        made = Guarded(ASKER)
        _, store, frame = made.enter(made.first, "go", 1)
        response, store, frame = made.resume(store, frame, 1)
        self.assertEqual(response, ("out", "tell", 0))
        self.assertEqual(made.enter(store, "go", 0), (("back", -1), store, None))
        response, store, frame = made.resume(store, frame, 0)
        self.assertEqual((response, frame), (("back", 2), None))
        self.assertEqual(made.enter(store, "go", 0)[0], ("out", "ask", 0))

    def test_stores_stand_for_whether_a_callout_is_pending(self):
        made = Guarded(COUNTER)
        _, pending, _ = made.enter(made.first, "add", 0)
        self.assertEqual(made.values_in(pending), made.values_in(made.first))
        self.assertNotEqual(pending, made.first)
        _, other, frame = Guarded(COUNTER).enter(made.first, "add", 0)
        self.assertEqual(other, pending)
        self.assertEqual(made.resume(pending, frame, 0)[1], made.first)
        self.assertEqual(frame, COUNTER.enter((0,), "add", 0)[2])

    def test_hang(self):
        made = Guarded(ASKER)
        self.assertEqual(made.enter(made.first, "spin", 0), (HANG, made.first, None))
        hanging = Guarded(read("callout c 1 1", "entry go 1 1 z", "  call c 0", "  while 1"))
        _, store, frame = hanging.enter(hanging.first, "go", 0)
        self.assertEqual(hanging.resume(store, frame, 0), (HANG, store, None))

    def test_a_callout_that_is_answered_by_a_wire_waits_too(self):
        both = Layered(Guarded(TWICE), COUNTER, (("store", "add"),))
        response, store, frame = both.enter(both.first, "twice", 0)
        self.assertEqual(response, ("out", "changed", 1))
        self.assertEqual(both.enter(store, "twice", 0), (("back", -1), store, None))
        open_one = Layered(TWICE, COUNTER, (("store", "add"),))
        _, store, _ = open_one.enter(open_one.first, "twice", 0)
        self.assertEqual(open_one.enter(store, "twice", 0)[0], ("out", "changed", 2))

    def test_as_a_lower_machine(self):
        both = Layered(TWICE, Guarded(COUNTER), (("store", "add"),))
        response, store, frame = both.enter(both.first, "twice", 0)
        self.assertEqual(response, ("out", "changed", 1))
        response, behind, inner = both.enter(store, "twice", 0)
        self.assertEqual((response, behind, inner), (("back", -1), store, None))
        response, store, frame = both.resume(store, frame, 0)
        self.assertEqual((response, both.values_in(store)), (("out", "changed", 2), (2,)))


class TestWatched(unittest.TestCase):
    RULE = Rule((
        (0, ("call", "add", 1), 1), (0, ("call", "get"), 2), (1, ("out", "changed", 1), 3), (3, ("answer", "changed", -1), 4),
        (4, ("back", "add", -1), 5), (3, ("answer", "changed"), 6), (6, ("back", "get"), 7), (6, ("back", "add", 1), 8),
        (2, ("back", "get", 0), 9), (3, ("call", "get", 0), 10), (10, ("back", "get", 1), 11), (10, ("back", "add"), 12),
    ), ())

    def store(self, made, values, state):
        """A store of these values and this state, made by another rule that leads there at once."""
        rule = Rule(((0, ("call", "get"), state),), ())
        other = Watched(Begun(COUNTER, values), rule)
        return other.enter(other.first, "get", 0)[1]

    def check(self, made, step, response, values, state):
        self.assertEqual((step[0], made.values_in(step[1])), (response, values))
        self.assertEqual(step[1], self.store(made, values, state))

    def test_like_the_other_machine(self):
        for made in (Watched(COUNTER, self.RULE), Watched(machine=COUNTER, rule=self.RULE), Watched(rule=self.RULE, machine=COUNTER)):
            self.assertIs(made.rule, self.RULE)
            self.assertEqual((made.face, made.variables, made.values_in(made.first)), (COUNTER.face, COUNTER.variables, (0,)))
            self.assertIs(type(made.first), tuple)

    def test_moves_and_responses_lead_the_rule(self):
        made = Watched(COUNTER, self.RULE)
        self.check(made, made.enter(made.first, "get", 0), ("back", 0), (0,), 9)
        self.check(made, made.enter(made.first, "add", 0), ("out", "changed", 0), (0,), 0)
        step = made.enter(made.first, "add", 1)
        self.check(made, step, ("out", "changed", 1), (1,), 3)
        self.check(made, made.resume(step[1], step[2], -1), ("back", -1), (1,), 5)
        self.check(made, made.resume(step[1], step[2], 0), ("back", 1), (1,), 8)
        inner = made.enter(step[1], "get", 0)
        self.check(made, inner, ("back", 1), (1,), 11)
        self.assertEqual(step[2], COUNTER.enter((0,), "add", 1)[2])

    def test_the_entry_that_ends_is_that_of_the_frame(self):
        rule = Rule(((0, ("back", "go"), 1), (0, ("back", "hop"), 2)), ())
        lines = ["callout c 1 1", "entry go 1 1 z", "  call c 0", "entry hop 1 1 z", "  call c 0"]
        made = Watched(read(*lines), rule)
        for entry, state in (("go", 1), ("hop", 2)):
            _, store, frame = made.enter(made.first, entry, 0)
            self.assertEqual(store, made.first)
            self.assertEqual(made.resume(store, frame, 0)[1], (made.first[0], state))
        both = Watched(Layered(TWICE, COUNTER, (("store", "add"),)), Rule((
            (0, ("back", "add"), 1), (0, ("back", "twice"), 2), (0, ("answer", "store"), 3), (0, ("answer", "changed", -1), 4),
        ), ()))
        _, store, frame = both.enter(both.first, "twice", 0)
        response, store, frame = both.resume(store, frame, 0)
        self.assertEqual((response, store[1]), (("out", "changed", 2), 0))
        self.assertEqual(both.resume(store, frame, 0)[1][1], 2)
        self.assertEqual(both.resume(store, frame, -1)[1][1], 4)

    def test_bad_states_stay(self):
        made = Watched(COUNTER, Rule(((0, ("call", "add"), 1), (1, ("out", "changed"), 2)), (1,)))
        self.assertEqual(made.enter(made.first, "add", 1)[1][1], 1)
        started = Watched(COUNTER, Rule(((0, ("call", "add"), 1),), (0,)))
        self.assertEqual(started.enter(started.first, "add", 1)[1][1], 0)

    def test_behind_a_hang_the_store_is_the_one_that_was_passed(self):
        made = Watched(ASKER, Rule(((0, ("call", "spin"), 1), (1, HANG, 2)), (2,)))
        self.assertEqual(made.enter(made.first, "spin", 0), (HANG, made.first, None))

    def test_calls_that_a_guard_refuses(self):
        rule = Rule(((0, ("call", "get"), 1), (1, ("back", "get", -1), 2)), ())
        inside, outside = Guarded(Watched(COUNTER, rule)), Watched(Guarded(COUNTER), rule)
        _, store, _ = inside.enter(inside.first, "add", 1)
        self.assertEqual(inside.enter(store, "get", 0), (("back", -1), store, None))
        _, store, _ = outside.enter(outside.first, "add", 1)
        response, behind, frame = outside.enter(store, "get", 0)
        self.assertEqual((response, frame, behind), (("back", -1), None, (store[0], 2)))

    def test_a_watched_layer_sees_what_wires_do(self):
        rule = Rule(((0, ("call", "add", 1), 1), (1, ("back", "add"), 2), (2, ("call", "add", 1), 3)), ())
        both = Layered(TWICE, Watched(COUNTER, rule), (("store", "add"),))
        _, store, frame = both.enter(both.first, "twice", 0)
        self.assertEqual(store[1][1], 1)
        _, store, frame = both.resume(store, frame, 0)
        self.assertEqual(store[1][1], 3)
        rule = Rule(((0, ("answer", "store", 1), 1), (1, ("back", "twice"), 2)), ())
        both = Layered(Watched(TWICE, rule), COUNTER, (("store", "add"),))
        _, store, frame = both.enter(both.first, "twice", 0)
        self.assertEqual(store[0][1], 0)
        _, store, frame = both.resume(store, frame, 0)
        self.assertEqual(store[0][1], 1)
        self.assertEqual(both.resume(store, frame, 0)[1][0][1], 2)

    def test_values_that_are_no_rules(self):
        for value in values_other_than(lambda v: isinstance(v, Rule)) + [Rule, ((), ())]:
            check_error(self, errors.NotARule, {"value": value}, Watched, COUNTER, value)
            check_error(self, errors.NotARule, {"value": value}, Watched, rule=value, machine=COUNTER)


class TestLayered(unittest.TestCase):
    def test_as_given(self):
        wires = (("store", "add"),)
        for made in (Layered(TWICE, COUNTER, wires), Layered(upper=TWICE, lower=COUNTER, wires=wires)):
            self.assertIs(made.upper, TWICE)
            self.assertIs(made.lower, COUNTER)
            self.assertIs(made.wires, wires)
            self.assertEqual(made.face.entries, (("twice", 1, 4),))
            self.assertEqual(made.face.callouts, (("changed", 4, 2),))
            self.assertEqual((made.variables, made.values_in(made.first)), ((("n", 4, 0),), (0,)))
            self.assertIs(type(made.first), tuple)
        loose = Layered(ASKER, TICK, ())
        self.assertEqual(loose.face.callouts, (("ask", 2, 3), ("note", 1, 1), ("tell", 1, 1)))
        self.assertEqual((loose.variables, loose.values_in(loose.first)), ((("last", 3, 2), ("t", 3, 0)), (2, 0)))

    def test_calls_through_a_wire(self):
        both = Layered(TWICE, COUNTER, (("store", "add"),))
        response, store, frame = both.enter(both.first, "twice", 0)
        self.assertEqual((response, both.values_in(store)), (("out", "changed", 1), (1,)))
        response, second, other = both.resume(store, frame, 0)
        self.assertEqual((response, both.values_in(second)), (("out", "changed", 2), (2,)))
        self.assertEqual(both.resume(second, other, 1), (("back", 3), second, None))
        self.assertEqual(both.resume(second, other, -1), (("back", -1), second, None))
        self.assertEqual(both.resume(store, frame, -1), (("back", -1), store, None))

    def test_calls_back_share_the_stores(self):
        both = Layered(TWICE, COUNTER, (("store", "add"),))
        _, one, outer = both.enter(both.first, "twice", 0)
        response, two, inner = both.enter(one, "twice", 0)
        self.assertEqual((response, both.values_in(two)), (("out", "changed", 2), (2,)))
        response, three, inner = both.resume(two, inner, 0)
        self.assertEqual((response, both.values_in(three)), (("out", "changed", 3), (3,)))
        self.assertEqual(both.resume(three, inner, 0), (("back", 3), three, None))
        self.assertEqual(both.resume(three, outer, 0), (("back", 3), three, None))

    def test_frames_stand_for_both_layers(self):
        lower = read("callout c 1 1", "entry e 2 1 k", "  call c 0")
        upper = read("callout a 2 1", "callout b 1 1", "entry go 3 1 k", "  if equal(k, 2)", "    call b 0", "  call a k")
        both = Layered(upper, lower, (("a", "e"),))
        frames = [both.enter(both.first, "go", value)[2] for value in (0, 1, 2)]
        self.assertEqual([both.enter(both.first, "go", value)[2] for value in (0, 1, 2)], frames)
        self.assertEqual(len({repr(frame) for frame in frames}), 3)
        for index, frame in enumerate(frames):
            for place, other in enumerate(frames):
                self.assertEqual(frame == other, index == place)
        response, _, behind = both.resume(both.first, frames[2], 0)
        self.assertEqual(response, ("out", "c", 0))
        self.assertNotIn(behind, frames)

    def test_the_upper_store_stays_while_the_lower_machine_calls_out_again(self):
        upper = read("variable u 9 7", "callout a 1 1", "entry go 1 9 z", "  assign u plus(u, 1)", "  call a 0", "  return u")
        lower = read("variable w 5 0", "callout c 2 1", "entry e 1 1 z", "  call c 0", "  assign w 3", "  call c 1", "  assign w 4")
        both = Layered(upper, lower, (("a", "e"),))
        step = both.enter(both.first, "go", 0)
        self.assertEqual((step[0], both.values_in(step[1])), (("out", "c", 0), (8, 0)))
        step = both.resume(step[1], step[2], 0)
        self.assertEqual((step[0], both.values_in(step[1])), (("out", "c", 1), (8, 3)))
        step = both.resume(step[1], step[2], 0)
        self.assertEqual((step[0], both.values_in(step[1]), step[2]), (("back", 8), (8, 4), None))

    def test_callouts_of_the_upper_machine_without_wires(self):
        both = Layered(ASKER, read("entry tick 1 1 z"), (("tell", "tick"),))
        self.assertEqual(both.face.callouts, (("ask", 2, 3),))
        response, store, frame = both.enter(both.first, "go", 1)
        self.assertEqual(response, ("out", "ask", 1))
        self.assertEqual(both.resume(store, frame, 1)[0], ("back", 2))
        self.assertEqual(both.resume(store, frame, -1)[0], ("back", 4))

    def test_a_result_fail_answers(self):
        upper = read("callout a 1 1", "entry go 1 3 z", "  attempt", "    call a 0", "  else", "    return 2", "  return 1")
        both = Layered(upper, read("entry e 1 1 z", "  fail"), (("a", "e"),))
        self.assertEqual(both.enter(both.first, "go", 0), (("back", 2), both.first, None))

    def test_one_entry_with_several_wires(self):
        upper = read("callout a 1 3", "callout b 1 3", "entry go 1 9 z", "  slot s 3", "  slot t 3", "  call a 0 into s", "  call b 0 into t", "  return plus(times(s, 3), t)")
        both = Layered(upper, TICK, (("b", "tick"), ("a", "tick")))
        self.assertEqual(both.enter(both.first, "go", 0)[0], ("back", 5))

    def test_hangs_of_either_layer(self):
        spin = read("entry e 1 1 z", "  while 1")
        upper = read("variable n 2 0", "callout a 1 1", "entry go 1 1 z", "  assign n 1", "  call a 0", "entry own 1 1 z", "  assign n 1", "  while 1")
        both = Layered(upper, spin, (("a", "e"),))
        self.assertEqual(both.enter(both.first, "go", 0), (HANG, both.first, None))
        self.assertEqual(both.enter(both.first, "own", 0), (HANG, both.first, None))
        late = read("variable m 2 0", "callout c 1 1", "entry e 1 1 z", "  call c 0", "  assign m 1", "  while 1")
        both = Layered(upper, late, (("a", "e"),))
        response, store, frame = both.enter(both.first, "go", 0)
        self.assertEqual(response, ("out", "c", 0))
        self.assertEqual(both.resume(store, frame, 0), (HANG, store, None))
        after = read("callout a 1 1", "entry go 1 1 z", "  call a 0", "  while 1")
        both = Layered(after, read("callout c 1 1", "entry e 1 1 z", "  call c 0"), (("a", "e"),))
        _, store, frame = both.enter(both.first, "go", 0)
        self.assertEqual(both.resume(store, frame, 0), (HANG, store, None))
        both = Layered(after, spin, ())
        _, store, frame = both.enter(both.first, "go", 0)
        self.assertEqual(both.resume(store, frame, 0), (HANG, store, None))

    def test_hangs_behind_a_wired_call_leave_both_stores(self):
        upper = read(
            "variable n 3 0", "callout a 1 3", "callout b 1 1", "entry go 1 1 z", "  assign n 1", "  call a 0", "  assign n 2", "  while 1",
            "entry on 1 1 z", "  assign n 1", "  call b 0", "  call a 0", "  assign n 2", "  while 1",
        )
        both = Layered(upper, TICK, (("a", "tick"),))
        self.assertEqual(both.enter(both.first, "go", 0), (HANG, both.first, None))
        _, store, frame = both.enter(both.first, "on", 0)
        self.assertEqual(both.values_in(store), (1, 0))
        self.assertEqual(both.resume(store, frame, 0), (HANG, store, None))
        self.assertEqual(both.enter(store, "go", 0), (HANG, store, None))

    def test_rings_without_an_end(self):
        upper = read("callout a 1 3", "entry go 1 1 z", "  while 1", "    call a 0")
        both = Layered(upper, TICK, (("a", "tick"),))
        self.assertEqual(both.enter(both.first, "go", 0), (HANG, both.first, None))
        upper = read("variable n 2 0", "callout a 1 3", "callout b 1 1", "entry go 1 1 z", "  call b 0", "  while 1", "    call a 0", "    assign n not(n)")
        both = Layered(upper, TICK, (("a", "tick"),))
        _, store, frame = both.enter(both.first, "go", 0)
        self.assertEqual(both.resume(store, frame, 0), (HANG, store, None))
        waiting = read("callout c 1 1", "entry e 2 2 k", "  if k", "    call c 0")
        upper = read("callout a 2 2", "entry go 1 1 z", "  call a 1", "  while 1", "    call a 0")
        both = Layered(upper, waiting, (("a", "e"),))
        _, store, frame = both.enter(both.first, "go", 0)
        self.assertEqual(both.resume(store, frame, 0), (HANG, store, None))

    def test_rings_with_an_end(self):
        upper = read("callout a 1 3", "entry go 1 3 z", "  slot s 3", "  while below(s, 2)", "    call a 0 into s", "  return s")
        both = Layered(upper, TICK, (("a", "tick"),))
        response, store, _ = both.enter(both.first, "go", 0)
        self.assertEqual((response, both.values_in(store)), (("back", 2), (2,)))
        long = read("variable m 40 0", "entry tick 1 40 z", "  assign m plus(m, 1)", "  return m")
        upper = read("variable n 30 0", "callout a 1 40", "entry go 1 1 z", "  slot s 40", "  while 1", "    assign n plus(n, 1)", "    call a 0 into s", "    if both(not(n), not(s))", "      return 0")
        both = Layered(upper, long, (("a", "tick"),))
        self.assertEqual(both.enter(both.first, "go", 0), (("back", 0), both.first, None))
        failing = read("variable m 5 0", "entry tick 1 40 z", "  assign m plus(m, 1)", "  if equal(m, 4)", "    fail")
        both = Layered(upper, failing, (("a", "tick"),))
        self.assertEqual(both.enter(both.first, "go", 0)[0], ("back", -1))

    def test_a_ring_that_calls_out_in_between_does_not_hang(self):
        upper = read("callout a 1 1", "entry go 1 1 z", "  while 1", "    call a 0")
        both = Layered(upper, read("callout c 1 1", "entry e 1 1 z", "  call c 0"), (("a", "e"),))
        step = both.enter(both.first, "go", 0)
        self.assertEqual(step[0], ("out", "c", 0))
        self.assertEqual(both.resume(step[1], step[2], 0), step)

    def test_three_layers(self):
        bottom = Layered(TWICE, COUNTER, (("store", "add"),))
        middle = read("callout down 1 4", "callout side 1 1", "entry m 1 4 z", "  slot s 4", "  call down 0 into s", "  call side 0", "  return s")
        top = read("callout c 1 4", "entry t 1 4 z", "  slot s 4", "  call c 0 into s", "  return s")
        made = Layered(top, Layered(middle, bottom, (("down", "twice"),)), (("c", "m"),))
        other = Layered(Layered(top, middle, (("c", "m"),)), bottom, (("down", "twice"),))
        for machine in (made, other):
            self.assertEqual(machine.face.callouts, (("changed", 4, 2), ("side", 1, 1)))
            step, responses = machine.enter(machine.first, "t", 0), []
            while step[2] is not None:
                responses.append(step[0])
                step = machine.resume(step[1], step[2], 0)
            self.assertEqual(responses + [step[0]], [("out", "changed", 1), ("out", "changed", 2), ("out", "side", 0), ("back", 3)])
            self.assertEqual(machine.values_in(step[1]), (2,))


class TestLayeredErrors(unittest.TestCase):
    def check_wires(self, index, upper, lower, wires):
        check_error(self, errors.InvalidWires, {"index": index}, Layered, upper, lower, wires)
        check_error(self, errors.InvalidWires, {"index": index}, Layered, wires=wires, lower=lower, upper=upper)

    def test_shared_names(self):
        lower = read("variable c 2 0", "variable a 2 0", "entry e 1 1 z")
        for names, first in ((("a", "c"), "a"), (("b", "c", "a"), "c"), (("a",), "a")):
            upper = read(*[f"variable {name} 2 0" for name in names], "entry e 1 1 z")
            for wires in ((), [], (5,), (("a", "b"),)):
                check_error(self, errors.SharedName, {"entry": None, "name": first}, Layered, upper, lower, wires)
            guarded = Guarded(Begun(lower, (1, 1)))
            check_error(self, errors.SharedName, {"entry": None, "name": first}, Layered, upper, guarded, 5)
        check_error(self, errors.SharedName, {"entry": None, "name": "n"}, Layered, COUNTER, COUNTER, ())
        self.assertEqual(Layered(TWICE, read("entry twice 2 4 z"), (("store", "twice"),)).face.callouts, ())

    def test_wires_that_are_no_tuple(self):
        for value in values_other_than(lambda v: isinstance(v, tuple)) + [[("store", "add")], {"store": "add"}]:
            self.check_wires(None, TWICE, COUNTER, value)

    def test_wrong_wires(self):
        upper = read("callout a 1 2", "callout b 1 2", "callout c 2 2", "callout d 1 3", "entry go 1 1 z")
        lower = read("callout x 1 2", "entry e 1 2 z", "entry f 1 2 z")
        wrong = any_values() + [
            ("a",), ("a", "e", "e"), ["a", "e"], ("e", "a"), ("c", "e"), ("d", "e"), ("x", "e"), ("a", "x"), ("a", "go"),
            ("a", "A"), ("a", None), (None, "e"), (["a"], "e"), ("a", ["e"]), ("a", 1), ("go", "e"),
        ]
        for wire in wrong:
            for index in range(3):
                wires = [("a", "e"), ("b", "f"), ("a", "e")]
                wires[index] = wire
                self.check_wires(index, upper, lower, tuple(wires))
        self.check_wires(1, upper, lower, (("a", "e"), ("a", "f")))
        self.check_wires(2, upper, lower, (("a", "e"), ("b", "e"), ("b", "e"), 5))
        self.assertEqual(len(Layered(upper, lower, (("b", "e"), ("a", "e"))).face.callouts), 3)

    def test_callouts_of_the_same_name(self):
        upper = read("callout a 1 1", "callout x 1 1", "entry go 1 1 z")
        lower = read("callout a 1 1", "callout y 1 1", "entry e 1 1 z")
        self.check_wires(None, upper, lower, ())
        self.check_wires(None, upper, lower, (("x", "e"),))
        self.check_wires(0, upper, lower, (5,))
        self.assertEqual(Layered(upper, lower, (("a", "e"),)).face.callouts, (("a", 1, 1), ("x", 1, 1), ("y", 1, 1)))

    def test_too_many_callouts(self):
        upper = read(*[f"callout u{index} 1 1" for index in range(3)], "entry go 1 1 z")
        lower = read(*[f"callout l{index} 1 1" for index in range(3)], "entry e 1 1 z")
        check_error(self, errors.TooMany, {"limit": 5}, Layered, upper, lower, ())
        self.assertEqual(len(Layered(upper, lower, (("u0", "e"),)).face.callouts), 5)
        same = read(*[f"callout {name} 1 1" for name in ("u0", "u1", "l1", "l2")], "entry e 1 1 z")
        self.check_wires(None, upper, same, ())
        self.check_wires(None, upper, same, (("u0", "e"),))
        check_error(self, errors.TooMany, {"limit": 5}, Layered, read("callout v 1 1", "callout w 1 1", "entry go 1 1 z"), same, ())


class TestNothingChanges(unittest.TestCase):
    def test_lists_that_are_passed_stay_as_they_are(self):
        wires, values = [("store", "add")], [3]
        check_error(self, errors.InvalidWires, {"index": None}, Layered, TWICE, COUNTER, wires)
        check_error(self, errors.InvalidStore, {"index": None}, Begun, COUNTER, values)
        self.assertEqual((wires, values), ([("store", "add")], [3]))

    def test_machines_stay_as_they_are(self):
        for machine in all_kinds():
            entry = machine.face.entries[0][0]
            first = [machine.enter(machine.first, entry, 0) for _ in range(2)]
            self.assertEqual(first[0], first[1])
            if first[0][2] is not None:
                store, frame = first[0][1:]
                self.assertEqual(machine.resume(store, frame, 0), machine.resume(store, frame, 0))
            self.assertEqual(machine.enter(machine.first, entry, 0), first[0])

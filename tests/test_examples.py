import doctest
import pathlib
import unittest

from reentry import errors
from reentry.always import breach, holds_always, is_kept, violation
from reentry.certificates import certify_alike, certify_always, certify_depth
from reentry.checker import holds
from reentry.clients import client_of, linked
from reentry.depth import coming, deep_play, depth_of, play_to, used_lines
from reentry.expressions import Below, Choose, Minus, Number, Variable, read_expression
from reentry.harmless import greatest_tables, least_tables
from reentry.likeness import alike, parting
from reentry.machines import Guarded, Layered
from reentry.modules import Module
from reentry.plays import plays
from reentry.reports import listing, summary
from reentry.rules import Rule
from reentry.sessions import Session, responses_of
from reentry.shorter import shorter, without
from reentry.statements import Assign, Attempt, Call, Fail, If
from reentry.tables import Table
from reentry.waiting import can_wait, is_quiet, obstacle, put_off
from reentry.workshop import Workshop

TEXT = (
    "variable n 4 0\ncallout changed 4 2\nentry add 2 4 k\n  if below(n, 3)\n    assign n plus(n, k)\n"
    "    call changed n\n  return n\nentry get 1 4 z\n  return n"
)
EARLY = (
    "variable n 4 0\ncallout changed 4 2\nentry add 2 4 k\n  slot old 4\n  if below(n, 3)\n    assign n plus(n, k)\n"
    "    assign old n\n    call changed n\n    return old\n  return n\nentry get 1 4 z\n  return n"
)


class TestExamples(unittest.TestCase):
    """The examples of the document."""

    def test_expressions(self):
        n, k = Variable("n"), Variable("k")
        one = Choose(Below(n, Number(3)), n + k, Number(0))
        self.assertEqual(
            [
                str(one), one.names, one.parts, one.depth, one.evaluate({"n": 2, "k": 5}), one.evaluate({"n": 3, "k": 5}),
                str(~n), Minus(n, k).evaluate({"n": 1, "k": 4}), read_expression("plus(n, k)") == n + k, repr(Number(7)),
            ],
            ["choose(below(n, 3), plus(n, k), 0)", ("k", "n"), 8, 3, 7, 0, "not(n)", -3, True, "Expression(7)"],
        )

    def test_an_expression_without_a_space(self):
        with self.assertRaises(errors.InvalidText) as caught:
            read_expression("plus(n,1)")
        self.assertEqual(caught.exception.value, "plus(n,1)")

    def test_statements(self):
        risky = Attempt(
            (Call("ask", Variable("n"), "y"), If(Variable("y"), (Fail(),))), (Assign("n", Number(0)),),
        )
        self.assertEqual(
            [risky.amount, risky.height, str(risky), repr(risky)],
            [5, 3, "attempt\n  call ask n into y\n  if y\n    fail\nelse\n  assign n 0", "Statement(attempt)"],
        )

    def test_modules(self):
        module = Module.read(TEXT)
        self.assertEqual(
            [str(module) == TEXT, module.variables, module.callouts, module.entries[1].name, module.lines[4], repr(module)],
            [True, (("n", 4, 0),), (("changed", 4, 2),), "get", "    assign n plus(n, k)", "Module(2 entries, 5 statements)"],
        )

    def test_rules(self):
        rule = Rule(
            ((0, ("out", "ask"), 1), (1, ("answer", "ask"), 0), (1, ("call", "put", 0), 1), (1, ("call", "put"), 2)), (2,),
        )
        self.assertEqual(
            [
                rule.after(0, ("out", "ask", 3)), rule.after(1, ("call", "put", 0)), rule.after(1, ("call", "put", 1)),
                rule.after(2, ("answer", "ask", -1)), rule.after(0, ("hang",)),
            ],
            [1, 1, 2, 2, 0],
        )

    def test_machines(self):
        module = Module.read(TEXT)
        upper = Module.read("callout store 2 4\nentry twice 1 4 z\n  call store 1\n  call store 1\n  return 3")
        both = Layered(upper, module, (("store", "add"),))
        self.assertEqual(
            [
                module.enter((1,), "add", 1), module.resume((3,), (5, (1,)), 0), module.enter((3,), "add", 1),
                both.face.entries, both.face.callouts, both.enter(both.first, "twice", 0)[0], both.values_in(both.first),
                Guarded(module).values_in(Guarded(module).first),
            ],
            [
                (("out", "changed", 2), (2,), (5, (1,))), (("back", 3), (3,), None), (("back", 3), (3,), None),
                (("twice", 1, 4),), (("changed", 4, 2),), ("out", "changed", 1), (0,), (0,),
            ],
        )

    def test_hangs(self):
        module = Module.read("entry spin 2 1 k\n  while k\n    assign k 1\n  attempt\n    fail\n  else\n    fail")
        self.assertEqual(
            [module.enter((), "spin", 1), module.enter((), "spin", 0)],
            [(("hang",), (), None), (("back", -1), (), None)],
        )

    def test_tables(self):
        one, two = Table(("changed", "get"), ("changed", "add")), Table(("changed", "get"))
        self.assertEqual(
            [
                one.pairs, (one - two).pairs, two.within(one), one | two == one, ("changed", "get") in two, len(one & two),
                repr(two), list(one),
            ],
            [
                (("changed", "add"), ("changed", "get")), (("changed", "add"),), True, True, True, 1, "Table(1 pairs)",
                [("changed", "add"), ("changed", "get")],
            ],
        )

    def test_sessions(self):
        module = Module.read(TEXT)
        session = Session(module)
        first = [
            session.call("add", 1), session(("call", "add", 1)), session.pending, session.shown, session.call("get"),
            session.fail(), session.answer(0),
        ]
        self.assertEqual(
            first + [
                session.pending, list(session.choices()), len(session),
                responses_of(module, (("call", "add", 0), ("answer", 1))),
            ],
            [
                ("out", "changed", 1), ("out", "changed", 2), ("changed", "changed"), (2,), ("back", 2), ("back", -1), ("back", 2),
                (), [("call", "add", 0), ("call", "add", 1), ("call", "get", 0)], 5, (("out", "changed", 0), ("back", 0)),
            ],
        )

    def test_plays(self):
        module = Module.read("callout ask 1 1\nentry go 1 1 z\n  call ask 0")
        self.assertEqual(list(plays(module, 2)), [
            (), (("call", "go", 0),), (("call", "go", 0), ("answer", -1)), (("call", "go", 0), ("answer", 0)),
            (("call", "go", 0), ("call", "go", 0)),
        ])

    def test_likeness(self):
        one, other = Module.read(TEXT), Module.read(EARLY)
        play = parting(one, other)
        self.assertEqual(
            [
                alike(one, other), alike(one, other, Table()), alike(one, other, Table(("changed", "get"))), play.length,
                responses_of(one, play.moves())[:3] == responses_of(other, play.moves())[:3],
                responses_of(one, play.moves()) == responses_of(other, play.moves()),
            ],
            [False, True, True, 4, True, False],
        )

    def test_always(self):
        module = Module.read(TEXT)
        rule = Rule(((0, ("out", "changed"), 1), (1, ("out", "changed"), 2), (1, ("back", "add"), 0)), (2,))
        self.assertEqual(
            [
                breach(module, read_expression("below(n, 3)")).length,
                breach(module, read_expression("below(n, 3)"), Table()).length,
                holds_always(module, read_expression("below(n, 4)")), is_kept(module, rule, Table()), violation(module, rule).length,
            ],
            [3, 5, True, True, 2],
        )

    def test_depth(self):
        text = (
            "variable busy 2 0\ncallout ask 1 2\nentry go 1 2 z\n  if busy\n    fail\n  assign busy 1\n  attempt\n    call ask 0\n"
            "  else\n    assign busy 0\n    return 0\n  assign busy 0\n  return 1"
        )
        module = Module.read(text)
        loose = Module.read("callout ask 1 1\nentry go 1 1 z\n  call ask 0")
        self.assertEqual(
            [
                depth_of(module), depth_of(loose), depth_of(Guarded(loose)), deep_play(loose, 3).length, deep_play(module, 2),
                coming(module), play_to(module, ("back", -1)).moves(), used_lines(module, Table()),
            ],
            [
                1, None, 1, 3, None, (("back", -1), ("back", 0), ("back", 1), ("out", "ask", 0)),
                (("call", "go", 0), ("call", "go", 0)), (3, 5, 6, 7, 9, 10, 11, 12),
            ],
        )

    def test_harmless(self):
        one, other = Module.read(TEXT), Module.read(EARLY)
        pairs = (("changed", "add"), ("changed", "get"))
        good, bad = greatest_tables(one, other, pairs), least_tables(one, other, pairs)
        self.assertEqual(
            [len(good), good[0].pairs, len(bad), bad[0].pairs], [1, (("changed", "get"),), 1, (("changed", "add"),)],
        )

    def test_waiting(self):
        module = Module.read(
            "variable n 4 0\ncallout ask 1 1\nentry go 1 2 z\n  call ask 0\n  return 1\nentry set 4 4 k\n  assign n k\n  return k\n"
            "entry get 1 4 z\n  return n"
        )
        moves = (("call", "go", 0), ("call", "set", 3), ("call", "get", 0), ("answer", 0))
        self.assertEqual(
            [
                can_wait(module, ("set", "get")), put_off(module, ("get", "set"), moves), can_wait(module, ("go",)),
                obstacle(module, ("go",))[1], is_quiet(module, "set"), is_quiet(module, "go"),
            ],
            [
                True, (("call", "go", 0), ("answer", 0), ("call", "set", 3), ("call", "get", 0)), False, ("call", "go", 0), True,
                False,
            ],
        )

    def test_shorter(self):
        module = Module.read("variable n 2 0\nentry go 1 2 z\n  assign n 1\n  if equal(n, 0)\n    return 0\n  return 1")
        self.assertEqual(
            [str(without(module, 3)), str(shorter(module))],
            ["variable n 2 0\nentry go 1 2 z\n  assign n 1\n  return 1", "variable n 2 0\nentry go 1 2 z\n  return 1"],
        )

    def test_clients(self):
        one, other = Module.read(TEXT), Module.read(EARLY)
        play = parting(one, other)
        client = client_of(one, play.moves())
        first, second = linked(one, client, "main", 50), linked(other, client, "main", 50)
        self.assertEqual(
            [
                len(first[0]), first[0][0][0] == play.at(0), first[1], second[1], first[0][:3] == second[0][:3], first[0] == second[0],
                linked(one, client, "main", 2)[1],
            ],
            [4, True, "done", "done", True, False, "cut"],
        )

    def test_reports(self):
        module = Module.read("variable busy 2 0\ncallout ask 1 2\nentry go 1 2 z\n  if busy\n    fail\n  call ask 0\n  return 1")
        self.assertEqual([listing(module, Table()), summary(module)], [
            "   0   variable busy 2 0\n   1   callout ask 1 2\n   2   entry go 1 2 z\n   3 +   if busy\n   4 -     fail\n   5 +   call ask 0\n"
            "   6 +   return 1",
            "depth without end\nhangs no\nouts 1\nbacks 2",
        ])

    def test_workshop(self):
        shop, text = Workshop(), "variable n 2 0\nentry go 1 2 z\n  assign n 1\n  return 1"
        shop.do_all(
            ("put", "a", text), ("put", "b", "entry go 1 2 z\n  return 1"), ("demand", ("alike", "a", "b", ())),
            ("demand", ("always", "a", "below(n, 2)", None)),
        )
        first = [shop.names, len(shop.demands), len(shop.history), "a" in shop, str(shop.module("b"))]
        shop.undo()
        self.assertEqual(
            first + [shop.demands], [("a", "b"), 2, 4, True, "entry go 1 2 z\n  return 1", (("alike", "a", "b", ()),)],
        )

    def test_a_broken_demand(self):
        shop = Workshop()
        with self.assertRaises(errors.BrokenDemand) as caught:
            shop.do_all(
                ("put", "a", "entry go 1 2 z\n  return 1"), ("put", "b", "entry go 1 2 z"), ("demand", ("alike", "a", "b", None)),
            )
        self.assertEqual(caught.exception.demand, ("alike", "a", "b", None))

    def test_checker(self):
        text = "variable n 2 0\ncallout ask 1 1\nentry go 1 2 z\n  call ask 0\n  return n"
        call = ((0,), "go", 0)
        table = (((0,),), ((call, ((3, (0,)), (0,))),), ((call, (0,)),))
        self.assertEqual(
            [
                holds(("always", text, "equal(n, 0)", ()), table), holds(("always", text, "equal(n, 1)", ()), table),
                holds(("depth", text, (), 1), (table, (1,))), holds(("depth", text, (), 0), (table, (1,))),
                holds(("deep", text, (("ask", "go"),), 2), (("call", "go", 0), ("call", "go", 0))),
                holds(("endless", text, (("ask", "go"),)), ((("call", "go", 0),), (("call", "go", 0),))),
            ],
            [True, False, True, False, True, True],
        )

    def test_certificates(self):
        one = Module.read("variable n 2 0\ncallout ask 1 1\nentry go 1 2 z\n  call ask 0\n  return n")
        other = Module.read("callout ask 1 1\nentry go 1 2 z\n  call ask 0\n  return 0")
        first, second, third = certify_alike(one, other), certify_always(one, read_expression("n")), certify_depth(one)
        self.assertEqual(
            [first[0][0], holds(first[0], first[1]), second[0][0], second[1], third[0][0], holds(third[0], third[1])],
            ["alike", True, "not always", (), "endless", True],
        )

    def test_readme(self):
        readme = pathlib.Path(__file__).resolve().parent.parent / "README.md"
        failed, tried = doctest.testfile(str(readme), module_relative=False)
        self.assertEqual(failed, 0)
        self.assertGreater(tried, 3)

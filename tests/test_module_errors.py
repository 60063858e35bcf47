import itertools
import random
import unittest

from reentry import errors
from reentry.expressions import Choose, Plus, Variable
from reentry.modules import Entry, Module
from reentry.statements import Assign, Attempt, Call, Fail, If, Return, While
from tests.values import any_values, check_error

FAIL, Z = Fail(), Variable("z")
RIGHT = {"name": "go", "arguments": 3, "results": 40, "parameter": "k", "slots": (("a", 1), ("b", 2)), "body": (FAIL, Return(Z))}
TOO_MANY = (While(Z, (FAIL,) * 399), FAIL)
WRONG = {
    "name": [("Go", "InvalidName", None), (None, "InvalidName", None), ("abcdefghi", "InvalidName", None)],
    "arguments": [(0, "InvalidSize", None), (True, "InvalidSize", None), (41, "InvalidSize", None)],
    "results": [(-1, "InvalidSize", None), ("1", "InvalidSize", None), (10 ** 50, "InvalidSize", None)],
    "parameter": [("", "InvalidName", None), (("k",), "InvalidName", None), ("1k", "InvalidName", None)],
    "slots": [
        ([("a", 1)], "InvalidSlots", {"index": None}), ((("a", 1),) * 4, "InvalidSlots", {"index": None}),
        ((("a", 1), ("a", 1)), "InvalidSlots", {"index": 1}), ((("k", 1),), "InvalidSlots", {"index": 0}),
        ((("a", 1), ("b", 2), ("c", 41)), "InvalidSlots", {"index": 2}),
    ],
    "body": [
        ([FAIL], "InvalidBody", {"index": None}), (FAIL, "InvalidBody", {"index": None}), ((FAIL,) * 401 + (5,), "InvalidBody", {"index": 401}),
        ((FAIL, "fail"), "InvalidBody", {"index": 1}), ((FAIL,) * 401, "TooMany", {"limit": 400}), (TOO_MANY, "TooMany", {"limit": 400}),
    ],
}


def height(level, last=FAIL):
    """A statement with statements one in another, down to this level."""
    made = last
    for index in range(level - 1):
        made = (If(Z, (made,)), While(Z, (made,)), Attempt((), (made,)), If(Z, (), (made,)), Attempt((made,)))[index % 5]
    return made


class TestEntries(unittest.TestCase):
    def test_wrong_arguments_at_several_places(self):
        names = list(RIGHT)
        chance = random.Random(1)
        for many in range(1, len(names) + 1):
            for places in itertools.combinations(names, many):
                for _ in range(4):
                    chosen = {name: chance.choice(WRONG[name]) for name in places}
                    given = {name: chosen[name][0] if name in chosen else RIGHT[name] for name in names}
                    value, kind, fields = chosen[places[0]]
                    fields = {"value": value} if fields is None else fields
                    check_error(self, getattr(errors, kind), fields, Entry, **given)
                    shuffled = dict(chance.sample(list(given.items()), len(given)))
                    check_error(self, getattr(errors, kind), fields, Entry, **shuffled)
                    positions = [given.pop(name) for name in names[:4]]
                    check_error(self, getattr(errors, kind), fields, Entry, *positions, **given)

    def test_each_wrong_argument(self):
        for name, rows in WRONG.items():
            for value, kind, fields in rows:
                check_error(self, getattr(errors, kind), {"value": value} if fields is None else fields, Entry, **{**RIGHT, name: value})

    def test_slots_and_bodies_by_name_only(self):
        with self.assertRaises(TypeError):
            Entry("go", 1, 1, "z", ())

    def test_amounts(self):
        for body in ((FAIL,) * 400, (While(Z, (FAIL,) * 398), FAIL), tuple(If(Z, (FAIL,), (FAIL,)) for _ in range(133)) + (FAIL,)):
            self.assertEqual(Entry("go", 1, 1, "z", body=body).body, body)
            check_error(self, errors.TooMany, {"limit": 400}, Entry, "go", 1, 1, "z", body=body + (FAIL,))
        self.assertEqual(Attempt((FAIL,) * 200, (FAIL,) * 199).amount, 400)
        check_error(self, errors.TooMany, {"limit": 400}, Attempt, (FAIL,) * 200, (FAIL,) * 200)
        check_error(self, errors.TooMany, {"limit": 400}, If, Z, (FAIL,) * 200, (FAIL,) * 200)
        check_error(self, errors.TooMany, {"limit": 400}, While, Z, (FAIL,) * 400)

    def test_levels(self):
        made = height(8)
        self.assertEqual(made.height, 8)
        Module(Entry("go", 1, 1, "z", body=(FAIL, made, made)))
        for body in ((made,), (FAIL, made), (height(7), made)):
            check_error(self, errors.TooMany, {"limit": 8}, If, Z, body)
            check_error(self, errors.TooMany, {"limit": 8}, If, Z, (), body)
            check_error(self, errors.TooMany, {"limit": 8}, While, Z, body)
            check_error(self, errors.TooMany, {"limit": 8}, Attempt, body)
            check_error(self, errors.TooMany, {"limit": 8}, Attempt, (), body)

    def test_too_many_and_too_high_at_once(self):
        body = (height(8),) + (FAIL,) * 392
        self.assertEqual(sum(statement.amount for statement in body), 400)
        for made in (body, body[::-1]):
            check_error(self, errors.TooMany, {"limit": 400}, While, Z, made)
            check_error(self, errors.TooMany, {"limit": 400}, Attempt, made[:200], made[200:])
            check_error(self, errors.TooMany, {"limit": 8}, While, Z, tuple(part for part in made if part is not FAIL))
            check_error(self, errors.InvalidBody, {"index": 393}, While, Z, made + (5,))
            check_error(self, errors.InvalidBody, {"index": 0}, If, Z, made, (5,))


class TestModules(unittest.TestCase):
    def made(self, body, name="go", slots=(("s", 2),), parameter="z"):
        return Entry(name, 2, 2, parameter, slots=slots, body=body)

    def test_wrong_arguments_at_several_places(self):
        right = Entry("go", 1, 1, "z")
        unknown = Entry("on", 1, 1, "z", body=(Return(Variable("q")),))
        variables = [
            ([], None), ((("n", 2, 2),), 0), ((("n", 2, 1), ("n", 2, 1)), 1), ((("n", 1, 0),) * 5, None), ((("n", 2, 0), ("m", 41, 0), 5), 1),
        ]
        callouts = [({}, None), ((("c", 2),), 0), ((("c", 2, 1), ("b", 1, 1), ("c", 1, 1)), 2), ((("c", 1, 1),) * 6, None)]
        for entries, index in (((), None), ((right,) * 6, None), ((right, 5), 1), ((right, unknown, right), 2), ((None,), 0), ((unknown, [right]), 1)):
            for wrong, _ in variables + [((), None)]:
                for other, _ in callouts + [((), None)]:
                    check_error(self, errors.InvalidEntries, {"index": index}, Module, *entries, callouts=other, variables=wrong)
        for wrong, index in variables:
            for other, _ in callouts + [((), None)]:
                check_error(self, errors.InvalidVariables, {"index": index}, Module, unknown, callouts=other, variables=wrong)
        for other, index in callouts:
            check_error(self, errors.InvalidCallouts, {"index": index}, Module, unknown, callouts=other, variables=(("z", 2, 0),))
        for value in any_values():
            check_error(self, errors.InvalidEntries, {"index": 0}, Module, value, right, callouts=5)

    def check_name(self, kind, name, entry, *more):
        """The error comes from the second entry, whatever comes behind."""
        fields = {"entry": entry.name, "name": name}
        before = Entry("before", 1, 1, "k", body=(Call("ask", Variable("n")), Return(Variable("k"))))
        for entries in ((entry,), (before, entry), (before, entry) + more):
            check_error(self, kind, fields, Module, *entries, variables=(("n", 2, 0), ("m", 2, 1)), callouts=(("ask", 1, 1),))

    def test_names_of_nothing_at_any_place(self):
        ask, q, right = "ask", Variable("q"), Return(Variable("n"))
        for statement, name in (
            (Assign("q", Z), "q"), (Assign("n", q), "q"), (Assign("r", q), "r"), (Call("q", Z), "q"), (Call(ask, q), "q"),
            (Call(ask, Z, "q"), "q"), (Call("p", q, "r"), "p"), (Call(ask, Plus(Variable("y"), q), "a"), "q"), (Return(q), "q"),
            (If(q, (), ()), "q"), (While(q, ()), "q"), (Call("n", Z), "n"), (Assign("ask", Z), "ask"), (Return(Variable("go")), "go"),
            (Call(ask, Z, "ask"), "ask"), (Return(Choose(Variable("x"), Variable("w"), Plus(Variable("v"), Z))), "v"), (Assign("k", Z), "k"),
        ):
            body = (right, statement, Return(Variable("aa")))
            self.check_name(errors.UnknownName, name, self.made(body), self.made((Return(Variable("bb")),), "on"))
            for around in (
                If(Z, body, (Return(Variable("ab")),)), If(Z, (right,), body), While(Z, body), Attempt(body, (Return(Variable("ab")),)),
                Attempt((), body), If(Z, (If(Z, (Attempt((While(Z, body),)),), ()),)),
            ):
                self.check_name(errors.UnknownName, name, self.made((right, around, Return(Variable("aa")))))
        self.check_name(errors.UnknownName, "q", self.made((If(q, (Return(Variable("a")),)),)))
        self.check_name(errors.UnknownName, "b", self.made((If(Z, (Return(Variable("b")),), (Return(Variable("a")),)),)))

    def test_names_that_are_variables(self):
        for slots, parameter, name in (
            ((), "n", "n"), ((("m", 2),), "n", "n"), ((("n", 2),), "m", "m"), ((("m", 2), ("n", 2)), "z", "m"), ((("a", 1), ("n", 2), ("m", 2)), "z", "n"),
        ):
            entry = self.made((Return(Variable("q")),), slots=slots, parameter=parameter)
            self.check_name(errors.SharedName, name, entry, self.made((), "on", (), "m"), Entry("at", 1, 1, "z", body=(Call("q", Z),)))
            unknown = self.made((Return(Variable("p")),), "first")
            self.check_name(errors.UnknownName, "p", unknown, entry)
            self.check_name(errors.SharedName, name, entry, unknown)

    def test_names_of_one_entry_are_not_known_in_another(self):
        other = Entry("on", 1, 1, "k", slots=(("t", 1),), body=(Return(Variable("k")), Assign("t", Variable("n"))))
        self.check_name(errors.UnknownName, "t", self.made((Assign("t", Z),)), other)
        self.check_name(errors.UnknownName, "k", self.made((Assign("s", Variable("k")),)), other)
        Module(other, self.made((Assign("s", Z),)), variables=(("n", 2, 0),))

    def test_products(self):
        variables = (("a", 40, 0), ("b", 10, 0))
        exact = Entry("x", 5, 40, "z", slots=(("s", 2),))
        Module(exact, Entry("y", 10, 1, "k"), Entry("w", 1, 1, "k", slots=(("s", 5), ("t", 2), ("u", 1))), variables=variables)
        above = [
            Entry("y", 11, 1, "z"), Entry("y", 1, 1, "z", slots=(("s", 11),)), Entry("y", 3, 1, "z", slots=(("s", 2), ("t", 2))),
            Entry("y", 40, 1, "z", slots=(("s", 40), ("t", 40), ("u", 40))),
        ]
        many = (FAIL,) * 200
        for entry in above:
            for entries in ((entry,), (exact, entry), (entry, exact)):
                check_error(self, errors.TooLarge, {"limit": 4000}, Module, *entries, variables=variables)
            unknown = Entry("on", 1, 1, "z", body=(Return(Variable("q")),))
            shared = Entry("on", 1, 1, "b")
            full = (Entry("f", 1, 1, "z", body=many), Entry("g", 1, 1, "z", body=many), Entry("h", 1, 1, "z", body=(FAIL,)))
            for entries in ((entry, unknown), (unknown, entry), (entry, unknown) + full, full + (entry, unknown)):
                check_error(self, errors.UnknownName, {"entry": "on", "name": "q"}, Module, *entries, variables=variables)
            check_error(self, errors.SharedName, {"entry": "on", "name": "b"}, Module, entry, shared, *full, variables=variables)
            for entries in ((entry,) + full, full + (entry,)):
                check_error(self, errors.TooMany, {"limit": 400}, Module, *entries, variables=variables)
            check_error(self, errors.TooLarge, {"limit": 4000}, Module, *full[:2], entry, variables=variables)
        check_error(self, errors.TooLarge, {"limit": 4000}, Module, Entry("x", 1, 1, "z"), variables=(("a", 40, 0), ("b", 40, 0), ("c", 3, 0)))
        for first, second, third, fourth in ((4, 7, 11, 13), (1, 29, 23, 6), (29, 23, 2, 3)):
            made = Entry("x", first, 1, "z", slots=(("s", second),))
            check_error(self, errors.TooLarge, {"limit": 4000}, Module, made, variables=(("a", third, 0), ("b", fourth, 0)))
        Module(Entry("x", 31, 1, "z", slots=(("s", 3),)), variables=(("a", 40, 0), ("b", 1, 0)))

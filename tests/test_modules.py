import unittest

from reentry import errors
from reentry.expressions import Number, Variable, read_expression
from reentry.machines import Machine
from reentry.modules import Entry, Module
from reentry.statements import Assign, Attempt, Call, Fail, If, Return, Statement, While
from tests.values import any_values, check_error, values_other_than

N, K, Z = Variable("n"), Variable("k"), Variable("z")
FAIL = Fail()
TEXT = (
    "variable n 4 0\ncallout changed 4 2\nentry add 2 4 k\n  if below(n, 3)\n    assign n plus(n, k)\n"
    "    call changed n\n  return n\nentry get 1 4 z\n  return n"
)
LONG = "\n".join([
    "variable n 4 3", "variable m 2 0", "callout into 3 2", "callout b 1 40", "entry go 2 5 k", "  slot one 2",
    "  slot slot 3", "  while below(n, 3)", "    assign n plus(n, k)", "    attempt", "      call into slot into one",
    "      call b 0 into one", "    else", "      if one", "      else", "        fail", "  call into slot", "  return 7",
    "entry x 1 1 into",
])


def entry(name="go", body=(), slots=(), arguments=1, results=2, parameter="z"):
    return Entry(name, arguments, results, parameter, slots=slots, body=body)


def is_size(value):
    return type(value) is int and 1 <= value <= 40


class TestEntry(unittest.TestCase):
    def test_as_given(self):
        slots, body = (("a", 1), ("b", 40), ("c", 3)), (FAIL, Return(Z))
        for made in (
            Entry("go", 3, 4, "z", slots=slots, body=body),
            Entry(name="go", arguments=3, results=4, parameter="z", slots=slots, body=body),
        ):
            self.assertEqual((made.name, made.arguments, made.results, made.parameter), ("go", 3, 4, "z"))
            self.assertIs(made.slots, slots)
            self.assertIs(made.body, body)
        plain = Entry("z", 1, 40, "z")
        self.assertEqual((plain.slots, plain.body), ((), ()))

    def test_equality(self):
        made = lambda: Entry("go", 3, 4, "z", slots=(("a", 1),), body=(Return(Number(1)),))
        one = made()
        self.assertEqual(one, made())
        for other in (
            Entry("og", 3, 4, "z", slots=(("a", 1),), body=(Return(Number(1)),)),
            Entry("go", 2, 4, "z", slots=(("a", 1),), body=(Return(Number(1)),)),
            Entry("go", 3, 3, "z", slots=(("a", 1),), body=(Return(Number(1)),)),
            Entry("go", 3, 4, "y", slots=(("a", 1),), body=(Return(Number(1)),)),
            Entry("go", 3, 4, "z", slots=(("a", 2),), body=(Return(Number(1)),)),
            Entry("go", 3, 4, "z", slots=(("a", 1),), body=(Return(Number(2)),)),
            Entry("go", 3, 4, "z"), "go", None, ("go", 3, 4, "z"), Module(one),
        ):
            self.assertIs(one == other, False)
            self.assertIs(one != other, True)

    def test_wrong_arguments(self):
        for value in values_other_than(lambda v: isinstance(v, str) and v == "a"):
            check_error(self, errors.InvalidName, {"value": value}, Entry, value, 0, 0, 0)
            check_error(self, errors.InvalidName, {"value": value}, Entry, "go", 1, 1, value, slots=5, body=5)
        for value in values_other_than(is_size):
            check_error(self, errors.InvalidSize, {"value": value}, Entry, "go", value, 0, 0)
            check_error(self, errors.InvalidSize, {"value": value}, Entry, "go", 1, value, 0)
        for value in values_other_than(lambda v: isinstance(v, tuple)) + [(("a", 1),) * 4, (1, 2, 3, 4)]:
            check_error(self, errors.InvalidSlots, {"index": None}, Entry, "go", 1, 1, "z", slots=value, body=5)
        wrong = any_values() + [("A", 1), ("a", 0), ("a", 41), ("a", True), ("a",), ("a", 1, 1), ["a", 1], ("z", 1), ("y", 1)]
        for value in wrong:
            if value == ("a", 1) and isinstance(value, tuple):
                continue
            for index in (1, 2):
                slots = [("y", 1), ("x", 2), ("w", 3)]
                slots[index] = value
                check_error(self, errors.InvalidSlots, {"index": index}, Entry, "go", 1, 1, "z", slots=tuple(slots), body=5)
        for value in values_other_than(lambda v: isinstance(v, tuple)):
            check_error(self, errors.InvalidBody, {"index": None}, Entry, "go", 1, 1, "z", body=value)
        for value in values_other_than(lambda v: isinstance(v, Statement)):
            check_error(self, errors.InvalidBody, {"index": 1}, Entry, "go", 1, 1, "z", body=(FAIL, value, 5))

    def test_amounts(self):
        self.assertEqual(len(entry(body=(FAIL,) * 400).body), 400)
        check_error(self, errors.TooMany, {"limit": 400}, Entry, "go", 1, 1, "z", body=(FAIL,) * 401)
        check_error(self, errors.TooMany, {"limit": 400}, Entry, "go", 1, 1, "z", body=(While(Z, (FAIL,) * 300),) * 2)


class TestModule(unittest.TestCase):
    def test_as_given(self):
        entries = (entry("b"), entry("a"))
        variables, callouts = (("v", 2, 1), ("u", 40, 39)), (("y", 1, 2), ("x", 3, 4))
        made = Module(*entries, variables=variables, callouts=callouts)
        self.assertEqual(made.entries, entries)
        self.assertIs(made.entries[0], entries[0])
        self.assertIs(made.variables, variables)
        self.assertIs(made.callouts, callouts)
        self.assertEqual((made.first, made.values_in((0, 1))), ((1, 39), (0, 1)))
        self.assertEqual(made.face.entries, (("a", 1, 2), ("b", 1, 2)))
        self.assertEqual(made.face.callouts, (("x", 3, 4), ("y", 1, 2)))
        self.assertIsInstance(made, Machine)
        self.assertEqual((Module(entry()).variables, Module(entry()).callouts), ((), ()))
        self.assertIn("read", vars(Module))

    def test_text(self):
        made = Module.read(TEXT)
        self.assertEqual((str(made), made.lines, repr(made)), (TEXT, tuple(TEXT.split("\n")), "Module(2 entries, 5 statements)"))
        self.assertEqual(repr(Module(entry(body=(FAIL,)))), "Module(1 entries, 1 statements)")
        self.assertEqual(repr(Module(entry())), "Module(1 entries, 0 statements)")
        self.assertEqual(str(Module(entry())), "entry go 1 2 z")
        self.assertEqual(str(Module.read(text=LONG)), LONG)

    def test_equality(self):
        self.assertEqual(Module.read(TEXT), Module.read(TEXT))
        self.assertNotEqual(Module.read(TEXT), Module.read(LONG))
        for other in (TEXT, None, Module.read(TEXT).entries, 1):
            self.assertIs(Module.read(TEXT) == other, False)

    def test_wrong_entries(self):
        check_error(self, errors.InvalidEntries, {"index": None}, Module, variables=5)
        six = [entry(name) for name in "abcdef"]
        check_error(self, errors.InvalidEntries, {"index": None}, Module, *six)
        self.assertEqual(len(Module(*six[:5]).entries), 5)
        for value in any_values() + [entry("a"), (entry("c"),), Entry]:
            check_error(self, errors.InvalidEntries, {"index": 2}, Module, entry("a"), entry("b"), value, 5, variables=5)

    def test_wrong_variables_and_callouts(self):
        for word, kind, limit in (("variables", errors.InvalidVariables, 4), ("callouts", errors.InvalidCallouts, 5)):
            full = tuple((name, 2, 1) for name in "abcde"[:limit])
            self.assertEqual(getattr(Module(entry(), **{word: full}), word), full)
            for value in values_other_than(lambda v: isinstance(v, tuple)) + [full + (("f", 2, 1),), (1,) * 6]:
                check_error(self, kind, {"index": None}, Module, entry(), **{word: value})
            wrong = any_values() + [("a", 2, 1), ("A", 2, 1), ("n", 0, 1), ("n", 41, 1), ("n", True, 1), ("n", 2), ("n", 2, 1, 1)]
            wrong += [["n", 2, 1], ("n", 2, 41), ("n", 2, -1), ("n", 2, True), ("n", 2, None), (1, 2, 1), ("n", "2", 1)]
            wrong += [("n", 2, 2)] if word == "variables" else [("n", 2, 0)]
            for value in wrong:
                check_error(self, kind, {"index": 1}, Module, entry(), **{word: (("a", 2, 1), value, 5)})
        check_error(self, errors.InvalidVariables, {"index": 0}, Module, entry(), callouts=5, variables=(5,))

    def check_unknown(self, name, *body, **more):
        made = [entry("ok"), entry("go", body=body, **more)]
        fields = {"entry": "go", "name": name}
        check_error(self, errors.UnknownName, fields, Module, *made, variables=(("n", 2, 0),), callouts=(("ask", 1, 1),))

    def test_unknown_names(self):
        more = {"slots": (("s", 2),)}
        self.check_unknown("q", Assign("q", Variable("a")), **more)
        self.check_unknown("a", Assign("n", Variable("b") + Variable("a")), **more)
        self.check_unknown("n1", Call("n1", Variable("a"), "b"))
        self.check_unknown("n", Call("n", Z))
        self.check_unknown("ask", Assign("n", Variable("ask")))
        self.check_unknown("a", Call("ask", Z + Variable("a"), "b"))
        self.check_unknown("b", Call("ask", Z, "b"))
        self.check_unknown("s", Return(Variable("s")))
        self.check_unknown("c", If(Z, (If(N, (), (Return(Variable("c")),)),), (Return(Variable("b")),)))
        self.check_unknown("b", While(Variable("b"), (Return(Variable("a")),)))
        self.check_unknown("x", Attempt((FAIL,), (Call("x", Variable("b")),)), Return(Variable("a")))
        Module(entry(body=(Assign("s", N), Call("ask", Z, "n")), **more), variables=(("n", 2, 0),), callouts=(("ask", 1, 1),))

    def test_shared_names(self):
        variables = (("n", 2, 0), ("m", 2, 0))
        for made, name in (
            (entry("b", parameter="n", slots=(("m", 1),)), "n"), (entry("b", slots=(("a", 1), ("m", 1), ("n", 1))), "m"),
            (entry("b", slots=(("m", 1),), body=(Return(Variable("q")),)), "m"),
        ):
            fields = {"entry": "b", "name": name}
            later = entry("c", parameter="m")
            check_error(self, errors.SharedName, fields, Module, entry("a"), made, later, variables=variables)
        first = entry("a", body=(Return(Variable("q")),))
        fields = {"entry": "a", "name": "q"}
        check_error(self, errors.UnknownName, fields, Module, first, entry("b", parameter="n"), variables=variables)

    def test_limits(self):
        many = tuple(entry(name, body=(FAIL,) * 100) for name in "abcd")
        self.assertEqual(repr(Module(*many)), "Module(4 entries, 400 statements)")
        check_error(self, errors.TooMany, {"limit": 400}, Module, *many, entry("e", body=(FAIL,)))
        large = {"variables": (("n", 40, 0), ("m", 10, 0)), "callouts": ()}
        Module(entry(arguments=5, slots=(("s", 2),)), **large)
        for made in (entry(arguments=11), entry(arguments=6, slots=(("s", 2),)), entry(slots=(("s", 3), ("t", 4)))):
            check_error(self, errors.TooLarge, {"limit": 4000}, Module, entry("a"), made, **large)
        check_error(self, errors.TooMany, {"limit": 400}, Module, *many, entry("e", arguments=40, body=(FAIL,)), **large)


class TestRead(unittest.TestCase):
    def check_wrong(self, text):
        check_error(self, errors.InvalidText, {"value": text}, Module.read, text)

    def test_parts(self):
        made = Module.read(LONG)
        self.assertEqual(made.variables, (("n", 4, 3), ("m", 2, 0)))
        self.assertEqual(made.callouts, (("into", 3, 2), ("b", 1, 40)))
        self.assertEqual([one.name for one in made.entries], ["go", "x"])
        self.assertEqual(made.entries[0].slots, (("one", 2), ("slot", 3)))
        self.assertEqual(made.entries[0].body[0], While(read_expression("below(n, 3)"), (
            Assign("n", N + K),
            Attempt(
                (Call("into", Variable("slot"), "one"), Call("b", Number(0), "one")),
                (If(Variable("one"), (), (FAIL,)),),
            ),
        )))

    def test_the_word_into(self):
        head = "callout into 2 2\nentry go 2 2 into\n"
        for line, made in (
            ("  call into into", Call("into", Variable("into"))),
            ("  call into into into into", Call("into", Variable("into"), "into")),
            ("  call into 1 into into", Call("into", Number(1), "into")),
            ("  call into plus(into, into) into into", Call("into", Variable("into") + Variable("into"), "into")),
        ):
            self.assertEqual(Module.read(head + line).entries[0].body, (made,))
        for line in ("  call into", "  call into into ", "  call into into into", "  call into 1 into", "  call into 1 into 1"):
            self.check_wrong(head + line)

    def test_one_line_or_sign_changed(self):
        for text in (TEXT, LONG):
            lines = text.split("\n")
            for index, line in enumerate(lines):
                for other in (" " + line, "  " + line, line + " ", line[1:], line.replace(" ", "  ", 1), "", line.upper()):
                    changed = "\n".join(lines[:index] + [other] + lines[index + 1:])
                    if changed != text:
                        self.read_or_refuse(changed)
                self.read_or_refuse("\n".join(lines[:index] + lines[index + 1:]))
                self.read_or_refuse("\n".join(lines[:index] + ["  else"] + lines[index:]))
                self.read_or_refuse("\n".join(lines[:index] + ["  fail"] + lines[index:]))
            for place in range(len(text)):
                for sign in ("", " ", "\n", "0", "a", "("):
                    self.read_or_refuse(text[:place] + sign + text[place + 1:])

    def read_or_refuse(self, text):
        try:
            made = Module.read(text)
        except errors.InvalidText as error:
            self.assertIs(error.value, text)
        else:
            self.assertEqual(str(made), text)

    def test_wrong_texts(self):
        for text in (
            "", "\n", "entry go 1 1", TEXT + "\n", "\n" + TEXT, TEXT + "\n  ", "entry go 01 1 z", "entry go 1 1 z z",
            "variable n 2 0", "variable n 2 2\nentry go 1 1 z", "callout c 1 1\nvariable n 2 0\nentry go 1 1 z",
            "entry go 1 1 z\n  return q", "entry go 1 1 z\n  slot z 1", "entry go 1 1 z\n  fail\n  slot a 1",
            "entry go 1 1 z\n  fail z", "entry go 1 1 z\n  if z\n  else", "entry go 1 1 z\n  else", "entry go 1 1 z\n    fail",
            "entry go 1 1 z\n  while z\n  else\n    fail", "entry go 1 1 z\nentry go 1 1 z", "entry go 1 " + "9" * 5000 + " z",
            "entry go 1 1 z\n  attempt z", "entry go 1 1 z\n  return", "entry go 1 1 z\n  return plus(z,z)", "Entry go 1 1 z",
            "entry go 41 1 z", "entry go 0 1 z", "entry go 1 1 z\n  slot a 40\n  slot b 40\n  slot c 40",
            "\n".join(f"entry {name} 1 1 z" for name in "abcdef"), "entry go 1 1 z" + "\n  fail" * 401,
        ):
            self.check_wrong(text)
        for level in range(1, 60):
            text = "entry go 1 1 z" + "".join(f"\n{'  ' * depth}attempt" for depth in range(1, level + 1))
            if level <= 8:
                self.assertEqual(str(Module.read(text)), text)
            else:
                self.check_wrong(text)

    def test_values_that_are_no_strings(self):
        for value in values_other_than(lambda v: isinstance(v, str)) + [Module.read(TEXT), [TEXT]]:
            self.check_wrong(value)

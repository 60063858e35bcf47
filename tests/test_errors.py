import unittest

from reentry import errors
from reentry.errors import LimitError, ReentryError, StateError
from tests.values import any_values

PYTHON = {"ReentryError": ValueError, "StateError": LookupError, "LimitError": ArithmeticError}

FIELDS = {}
for word in (
    "InvalidName InvalidSize InvalidNumber InvalidValue InvalidText InvalidMove InvalidResponse InvalidCount "
    "InvalidDeed NotAnExpression NotAModule NotAMachine NotATable NotARule"
).split():
    FIELDS[word] = ("ReentryError", ("value",))
for word in (
    "InvalidBody InvalidSlots InvalidEntries InvalidVariables InvalidCallouts InvalidPairs InvalidWires "
    "InvalidSteps InvalidBad InvalidStore InvalidMoves"
).split():
    FIELDS[word] = ("ReentryError", ("index",))
FIELDS["UnknownPair"] = ("ReentryError", ("pair",))
FIELDS["SharedName"] = ("ReentryError", ("entry", "name"))
FIELDS["UnknownName"] = ("ReentryError", ("entry", "name"))
FIELDS["NotAllowed"] = ("StateError", ("move",))
FIELDS["UnknownModule"] = ("StateError", ("name",))
FIELDS["BrokenDemand"] = ("StateError", ("demand",))
FIELDS["UnknownDemand"] = ("StateError", ("demand",))
for word in ("Over", "NothingToUndo", "FacesDiffer"):
    FIELDS[word] = ("StateError", ())
for word in ("TooMany", "TooLarge", "TooLong"):
    FIELDS[word] = ("LimitError", ("limit",))


def own_classes():
    return {name: kind for name, kind in vars(errors).items() if isinstance(kind, type)}


def made_in_all_ways(kind, fields, value, other):
    given = (value, other)[:len(fields)]
    yield kind(*given), given
    yield kind(**dict(zip(fields, given))), given
    if len(fields) == 2:
        yield kind(given[0], **{fields[1]: given[1]}), given


class TestErrors(unittest.TestCase):
    def test_there_are_these_classes_and_no_others(self):
        self.assertEqual(sorted(own_classes()), sorted(list(FIELDS) + list(PYTHON)))

    def test_base_classes(self):
        for name, python in PYTHON.items():
            self.assertEqual(getattr(errors, name).__bases__, (python,))
        self.assertTrue(issubclass(ReentryError, ValueError))
        self.assertTrue(issubclass(StateError, LookupError))
        self.assertTrue(issubclass(LimitError, ArithmeticError))

    def test_each_class_has_just_its_base_classes(self):
        for name, (base, fields) in FIELDS.items():
            kind = getattr(errors, name)
            for error, _ in made_in_all_ways(kind, fields, 1, 2):
                for other, other_kind in own_classes().items():
                    with self.subTest(name=name, other=other):
                        self.assertEqual(isinstance(error, other_kind), other in (name, base))
                for python in (ValueError, LookupError, ArithmeticError):
                    self.assertEqual(isinstance(error, python), python is PYTHON[base])

    def test_fields_are_kept_as_they_are(self):
        for name, (_, fields) in FIELDS.items():
            kind = getattr(errors, name)
            for value in any_values():
                other = [value]
                for error, given in made_in_all_ways(kind, fields, value, other):
                    with self.subTest(name=name, value=str(value)[:40]):
                        self.assertEqual(list(vars(error)), list(fields))
                        for field, kept in zip(fields, given):
                            self.assertIs(getattr(error, field), kept)

    def test_what_is_passed_stays_as_it_is(self):
        rows, table = [1, [2]], {"a": [1]}
        for name, (_, fields) in FIELDS.items():
            list(made_in_all_ways(getattr(errors, name), fields, rows, table))
        self.assertEqual((rows, table), ([1, [2]], {"a": [1]}))

    def test_errors_are_raised_and_caught_by_their_base_classes(self):
        for name, (base, fields) in FIELDS.items():
            with self.assertRaises(getattr(errors, base)):
                raise getattr(errors, name)(*[None] * len(fields))

    def test_errors_take_no_other_fields(self):
        for name, (_, fields) in FIELDS.items():
            kind = getattr(errors, name)
            with self.assertRaises(TypeError):
                kind(other=1)
            if fields:
                with self.assertRaises(TypeError):
                    kind()
                with self.assertRaises(TypeError):
                    kind(1, 2, 3)

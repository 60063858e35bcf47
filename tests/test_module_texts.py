import random
import unittest

from reentry import errors
from reentry.modules import Module
from tests.oracle import Maker
from tests.plain_texts import is_text
from tests.test_modules import LONG as MIXED, TEXT

LONG = f"{MIXED}\n  return choose(both(n, not(m)), minus(into, times(10, 999)), either(equal(m, 1), 0))"
SIGNS = ["", " ", "\n", "0", "1", "n", "(", ",", "A", "-"]


class TestTexts(unittest.TestCase):
    """Texts of modules with changes, against patterns of lines."""

    def setUp(self):
        self.counts = {True: 0, False: 0}

    def check(self, text):
        expected = is_text(text)
        self.counts[expected] += 1
        try:
            made = Module.read(text)
        except errors.InvalidText as error:
            self.assertIs(type(error), errors.InvalidText)
            self.assertIs(error.value, text)
            self.assertFalse(expected, text)
        else:
            self.assertTrue(expected, text)
            self.assertEqual(str(made), text)
            self.assertEqual("\n".join(made.lines), text)
            self.assertEqual(Module(*made.entries, variables=made.variables, callouts=made.callouts), made)

    def texts(self):
        yield from (TEXT, LONG)
        for seed in range(6):
            yield str(Maker(seed).module("1"))

    def test_the_texts_themselves(self):
        for text in self.texts():
            self.check(text)
        self.assertEqual(self.counts[False], 0)

    def test_lines(self):
        for text in self.texts():
            lines = text.split("\n")
            for index in range(len(lines)):
                self.check("\n".join(lines[:index] + lines[index + 1:]))
                self.check("\n".join(lines[:index] + [lines[index]] + lines[index:]))
                for other in range(len(lines)):
                    moved = lines[:index] + lines[index + 1:]
                    self.check("\n".join(moved[:other] + [lines[index]] + moved[other:]))
                    exchanged = list(lines)
                    exchanged[index], exchanged[other] = lines[other], lines[index]
                    self.check("\n".join(exchanged))
                for line in ("", "  else", "    else", "  fail", "  attempt", "  slot q 2", "entry q 1 1 q", "variable q 2 0", "callout q 1 1"):
                    self.check("\n".join(lines[:index] + [line] + lines[index:]))
        self.assertGreater(min(self.counts.values()), 500)

    def test_words(self):
        for text in self.texts():
            lines = text.split("\n")
            for index, line in enumerate(lines):
                words = line.split(" ")
                for place, word in enumerate(words):
                    changed = [words[:place] + words[place + 1:], words[:place] + [word] + words[place:]]
                    changed += [words[:place] + [other] + words[place + 1:] for other in (
                        "0" + word, "00", "01", "41", "40", "1000", "n", "k", "q", "A", "else", "into", "-1", "1.0", "plus(n,k)", word + ",",
                    )]
                    for other in range(place):
                        exchanged = list(words)
                        exchanged[place], exchanged[other] = words[other], words[place]
                        changed.append(exchanged)
                    for row in changed:
                        self.check("\n".join(lines[:index] + [" ".join(row)] + lines[index + 1:]))
        self.assertGreater(min(self.counts.values()), 500)

    def test_spaces(self):
        for text in self.texts():
            lines = text.split("\n")
            for index, line in enumerate(lines):
                for other in (" " + line, "  " + line, "    " + line, line + " ", line[1:], line[2:], line[4:], line.replace(" ", "  "), line.strip()):
                    self.check("\n".join(lines[:index] + [other] + lines[index + 1:]))
        self.assertGreater(self.counts[False], 500)

    def test_signs(self):
        for text in (TEXT, LONG):
            for place in range(len(text) + 1):
                for sign in SIGNS:
                    self.check(text[:place] + sign + text[place + 1:])
                    self.check(text[:place] + sign + text[place:])
        self.assertGreater(min(self.counts.values()), 500)

    def test_many_changes(self):
        for seed in range(600):
            chance = random.Random(seed)
            lines = str(Maker(seed % 40).module("1")).split("\n")
            for _ in range(chance.randint(1, 4)):
                index, other = chance.randrange(len(lines)), chance.randrange(len(lines))
                lines[index], lines[other] = chance.choice(((lines[other], lines[index]), (lines[index], lines[index]), (lines[other], "  " + lines[index])))
            self.check("\n".join(lines))
        self.assertGreater(min(self.counts.values()), 20)


class TestLimits(unittest.TestCase):
    check = TestTexts.check
    setUp = TestTexts.setUp

    def test_limits_of_texts(self):
        for many in (3, 4, 5, 6):
            entry = "\nentry go 1 1 z"
            self.check("\n".join(f"variable {name} 1 0" for name in "abcdef"[:many]) + entry)
            self.check("\n".join(f"callout {name} 1 1" for name in "abcdef"[:many]) + entry)
            self.check("\n".join(f"entry {name} 1 1 z" for name in "abcdef"[:many]))
            self.check("entry go 1 1 z\n" + "\n".join(f"  slot {name} 1" for name in "abcdef"[:many - 1]))
        for many in (399, 400, 401):
            self.check("entry go 1 1 z" + "\n  fail" * many)
            self.check("entry go 1 1 z" + "\n  fail" * (many - 300) + "\nentry on 1 1 z" + "\n  attempt\n    fail" * 150)
        for level in range(7, 11):
            for inside in ("\n  fail", "\n  return z"):
                self.check("entry go 1 1 z" + "".join(f"\n{'  ' * depth}if z" for depth in range(1, level)) + inside.replace("  ", "  " * level))
        for size in (1, 10, 11, 40, 41):
            self.check(f"variable a 40 0\nvariable b 10 9\nentry go {size} 1 z")
        for first in (0, 1, 2):
            self.check(f"variable a 2 {first}\nentry go 1 1 z")
        self.assertGreater(min(self.counts.values()), 10)

    def test_expressions_in_texts(self):
        for depth in range(1, 9):
            self.check("entry go 1 1 z\n  return " + "not(" * depth + "z" + ")" * depth)
        for many in range(18, 23):
            expression = "plus(" * 3 + "1"
            row = ["1"] * many
            while len(row) > 1:
                row = [f"plus({', '.join(row[at:at + 2])})" if at + 1 < len(row) else row[at] for at in range(0, len(row), 2)]
            self.check(f"entry go 1 1 z\n  while {row[0]}")
            self.check(f"entry go 1 1 z\n  while {expression}")
        self.assertGreater(min(self.counts.values()), 4)

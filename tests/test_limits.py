import unittest

from reentry import limits

CONSTANTS = {
    "FAIL": -1, "MAX_SIZE": 40, "MAX_NUMBER": 999, "MAX_PARTS": 40, "MAX_DEPTH": 6, "MAX_LEVEL": 8,
    "MAX_SLOTS": 3, "MAX_VARIABLES": 4, "MAX_ENTRIES": 5, "MAX_CALLOUTS": 5, "MAX_STATEMENTS": 400,
    "MAX_PRODUCT": 4000, "MAX_ROWS": 20000, "MAX_WRITTEN": 400, "MAX_CLIENT": 15, "MAX_OPEN": 5,
    "MAX_ASKED": 200, "MAX_STATE": 99,
}


class TestLimits(unittest.TestCase):
    def test_each_constant(self):
        for name, value in CONSTANTS.items():
            with self.subTest(name=name):
                self.assertIs(type(getattr(limits, name)), int)
                self.assertEqual(getattr(limits, name), value)

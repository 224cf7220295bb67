"""Tests of oldsights.errors (point 4 and the interface)."""

import unittest

from oldsights import errors

PLAIN = ["NoBook", "NoState", "NoRow", "NoMarks", "NoDeed", "NoTrial", "NoLog", "NoKinds", "NoWaiting", "NoTold",
         "NoKind", "NoHelper", "NoLate", "NoNumber"]


class Errors(unittest.TestCase):
    def test_each_is_a_direct_subclass(self):
        self.assertEqual(errors.SightsError.__bases__, (ValueError,))
        for name in PLAIN + ["NoText"]:
            error = getattr(errors, name)
            self.assertEqual(error.__bases__, (errors.SightsError,), name)
            self.assertEqual(error.__module__, "oldsights.errors")
            self.assertEqual(error.__name__, name)

    def test_there_are_no_others(self):
        found = [name for name, thing in vars(errors).items() if isinstance(thing, type)]
        self.assertEqual(sorted(found), sorted(PLAIN + ["NoText", "SightsError"]))

    def test_plain_ones_have_no_attributes(self):
        for name in PLAIN:
            self.assertEqual(vars(getattr(errors, name)("why")), {}, name)

    def test_text_has_its_line(self):
        self.assertEqual(vars(errors.NoText(7)), {"line": 7})
        self.assertEqual(str(errors.NoText(7)), "line 7 cannot stand")


if __name__ == "__main__":
    unittest.main()

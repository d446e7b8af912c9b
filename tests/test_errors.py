"""The interface "panplan/errors.py"."""

import unittest

from panplan.errors import BadCases, BadCount, BadDone, PanError

REFUSALS = (BadCount, BadCases, BadDone)


class Errors(unittest.TestCase):
    def test_any_refusal_is_a_value_error(self):
        self.assertEqual(PanError.__bases__, (ValueError,))

    def test_each_stands_straight_under_pan_error(self):
        for refusal in REFUSALS:
            with self.subTest(refusal=refusal.__name__):
                self.assertEqual(refusal.__bases__, (PanError,))
                self.assertTrue(issubclass(refusal, ValueError))

    def test_none_is_another_one(self):
        for one in REFUSALS:
            for other in REFUSALS:
                self.assertEqual(issubclass(one, other), one is other)

    def test_each_is_raised_and_caught_as_what_it_is(self):
        for refusal in REFUSALS:
            for caught in (refusal, PanError, ValueError):
                with self.assertRaises(caught):
                    raise refusal("why")
            for other in REFUSALS:
                if other is not refusal:
                    self.assertNotIsInstance(refusal("why"), other)

    def test_each_is_defined_in_its_file(self):
        for refusal in (PanError,) + REFUSALS:
            self.assertEqual(refusal.__module__, "panplan.errors")


if __name__ == "__main__":
    unittest.main()

"""The interface, stillspans/errors.py."""

import unittest

from stillspans import errors

PLAIN = ("NoPart", "NoTower", "NoPair", "NotTight", "TooMuch", "NoText", "NoRow", "NoName")
WITH_VALUE = (("NoWord", "at", 17), ("NoPaper", "where", "form"))


class Errors(unittest.TestCase):
    def test_any_refusal_is_a_value_error(self):
        self.assertEqual(errors.SpanError.__bases__, (ValueError,))

    def test_each_stands_straight_under_span_error(self):
        for name in PLAIN + tuple(name for name, _, _ in WITH_VALUE):
            with self.subTest(name=name):
                kind = getattr(errors, name)
                self.assertEqual(kind.__bases__, (errors.SpanError,))
                self.assertEqual((kind.__name__, kind.__module__), (name, "stillspans.errors"))

    def test_the_plain_ones_are_raised_and_caught(self):
        for name in PLAIN:
            with self.subTest(name=name), self.assertRaises(errors.SpanError):
                raise getattr(errors, name)("why")

    def test_values(self):
        for name, value, told in WITH_VALUE:
            with self.subTest(name=name), self.assertRaises(errors.SpanError) as caught:
                raise getattr(errors, name)(told)
            self.assertEqual(getattr(caught.exception, value), told)
            self.assertIsInstance(str(caught.exception), str)
        self.assertEqual(errors.NoWord(0).at, 0)


if __name__ == "__main__":
    unittest.main()

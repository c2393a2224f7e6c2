"""Point 2: what is handed in stays, and what is told is the asker's own."""

import unittest
from copy import deepcopy

from stillspans import polys, spans
from tests.helper import PRIMES, Draw, lists_within, spoil


def spans_asked(p):
    """Calls of stillspans.spans, as tuples of a function and its arguments."""
    draw = Draw(800 + p)
    twice = draw.row(p, 5)
    whole = spans.low(p, [[0, 1], [1, 0]])
    for rows in ([], [[0, 0, 0]], [twice, twice], draw.rows(p, 3, 5), draw.rows(p, 40, 36)):
        length = len(rows[0]) if rows else 4
        form = spans.low(p, rows)
        other = spans.low(p, draw.rows(p, 2, length))
        row = draw.row(p, length)
        within = list(form[0]) if form else [0] * length
        yield spans.low, (p, rows)
        yield spans.low, (p, form)
        yield spans.is_low, (p, rows)
        yield spans.is_low, (p, form)
        for asked in (row, within, [0] * length):
            yield spans.has, (p, form, asked)
            yield spans.shares, (p, form, asked)
        for function in (spans.together, spans.crossing):
            for one, two in ((form, other), (other, form), (form, []), ([], form), (form, form)):
                yield function, (p, one, two)
        yield spans.across, (p, length, form)
    yield spans.across, (p, 2, whole)
    yield spans.together, (p, whole, whole)


def polys_asked(p):
    """Calls of stillspans.polys, as tuples of a function and its arguments."""
    draw = Draw(900 + p)
    some = [[], [1], [p - 1], [0, 1], [1, 1]] + [draw.poly(p, degree) for degree in (1, 2, 3)]
    for one in some:
        yield polys.is_poly, (p, one)
        yield polys.is_bare, (p, one)
        if one:
            yield polys.bare_parts, (p, one)
        for other in some:
            yield polys.poly_sum, (p, one, other)
            yield polys.poly_times, (p, one, other)
            yield polys.common, (p, one, other)
            if other:
                yield polys.parted, (p, one, other)
    power = [0, 0, 0, 1]
    yield polys.bare_parts, (p, power)
    yield polys.is_poly, (p, [p, None, "x", (1,), [1]])
    yield polys.is_poly, (p, ([1], [2]))


class Own(unittest.TestCase):
    def asked(self):
        for p in PRIMES:
            for function, handed in list(spans_asked(p)) + list(polys_asked(p)):
                yield function, handed

    def test_what_is_handed_in_stays(self):
        for function, handed in self.asked():
            before = deepcopy(handed)
            function(*handed)
            self.assertEqual(handed, before, function.__name__)

    def test_what_is_told_is_new_throughout(self):
        for function, handed in self.asked():
            told = function(*handed)
            within = [id(one) for one in lists_within(told)]
            self.assertEqual(len(within), len(set(within)), function.__name__)
            known = [id(one) for one in lists_within(handed)]
            self.assertFalse([one for one in within if one in known], function.__name__)

    def test_changing_what_was_told_changes_no_later_answer(self):
        for function, handed in self.asked():
            told = function(*handed)
            wanted = deepcopy(told)
            spoil(told)
            self.assertEqual(function(*handed), wanted, function.__name__)

    def test_changing_what_was_handed_in_changes_nothing_told(self):
        for function, handed in self.asked():
            copied = deepcopy(handed)
            told = function(*copied)
            wanted = deepcopy(told)
            spoil(copied)
            self.assertEqual(told, wanted, function.__name__)
            self.assertEqual(function(*handed), wanted, function.__name__)

    def test_whole_numbers_are_no_truths(self):
        for function, handed in self.asked():
            told = function(*handed)
            if not function.__name__.startswith(("is_", "has")):
                for one in lists_within(told):
                    for inner in one:
                        self.assertIn(type(inner), (int, list, tuple), function.__name__)
            else:
                self.assertIs(type(told), bool)

    def test_refusals_change_nothing(self):
        for p in PRIMES:
            one, other = [1, 1], []
            with self.assertRaises(ValueError):
                polys.parted(p, one, other)
            with self.assertRaises(ValueError):
                polys.bare_parts(p, other)
            self.assertEqual((one, other), ([1, 1], []))


if __name__ == "__main__":
    unittest.main()

"""Points 4, 5 and 6: the form of a span, and what is told of forms."""

import unittest

from stillspans.spans import across, crossing, has, is_low, low, shares, together
from tests.helper import (PRIMES, Draw, all_lists_of_rows, all_rows, low_by_the_words, mixed,
                          mixtures, unit_rows)

SMALL = ((2, 1, 3), (2, 2, 3), (2, 3, 3), (3, 1, 2), (3, 2, 3), (5, 1, 2), (5, 2, 2), (7, 2, 2),
         (11, 1, 2))


def forms(p, length):
    """Every form of rows of the length, once."""
    found = []
    for rows in all_lists_of_rows(p, length, length):
        if low_by_the_words(rows):
            found.append(rows)
    return found


def drawn_pairs(p):
    """Forms of many sizes, two by two, with noughts and all among them."""
    draw = Draw(p)
    for length in (1, 2, 3, 5, 8, 13, 36):
        sizes = (0, 1, length // 2, length - 1, length)
        for one in sizes:
            for other in sizes:
                yield length, low(p, draw.rows(p, one, length)), low(p, draw.rows(p, other, length))
        yield length, unit_rows(length), low(p, draw.rows(p, length // 2, length))


class Low(unittest.TestCase):
    def told(self, p, rows, length):
        """The form, after a look at what point 5 asks of it."""
        form = low(p, rows)
        self.assertIs(type(form), list)
        for row in form:
            self.assertIs(type(row), list)
            self.assertEqual(len(row), length)
            for number in row:
                self.assertIs(type(number), int)
                self.assertTrue(0 <= number < p)
        self.assertTrue(low_by_the_words(form), (p, rows, form))
        return form

    def test_all_small_lists(self):
        for p, length, most in SMALL:
            form_of = {}
            for rows in all_lists_of_rows(p, length, most):
                form = self.told(p, rows, length)
                span = frozenset(mixtures(p, rows, length))
                self.assertEqual(mixtures(p, form, length), span, (p, rows, form))
                self.assertEqual(form_of.setdefault(span, form), form)

    def test_no_rows_and_noughts(self):
        for p in PRIMES:
            self.assertEqual(low(p, []), [])
            for length in (1, 2, 36):
                self.assertEqual(low(p, [[0] * length]), [])
                self.assertEqual(low(p, [[0] * length] * 40), [])

    def test_written_out(self):
        self.assertEqual(low(2, [[1, 1, 0], [0, 1, 1]]), [[1, 0, 1], [0, 1, 1]])
        self.assertEqual(low(3, [[0, 2, 1]]), [[0, 1, 2]])
        self.assertEqual(low(5, [[2, 4, 1], [1, 2, 1]]), [[1, 2, 0], [0, 0, 1]])
        self.assertEqual(low(7, [[0, 0, 3], [0, 5, 1]]), [[0, 1, 0], [0, 0, 1]])
        self.assertEqual(low(11, [[10, 1]]), [[1, 10]])

    def test_all(self):
        for p in PRIMES:
            for length in (1, 2, 36):
                self.assertEqual(low(p, unit_rows(length)[::-1]), unit_rows(length))

    def test_twice_backwards_and_of_a_form_itself(self):
        for p in PRIMES:
            draw = Draw(100 + p)
            for length in (1, 2, 4, 9, 36):
                for many in (1, 2, 3, 8):
                    rows = draw.rows(p, many, length)
                    form = self.told(p, rows, length)
                    self.assertEqual(low(p, form), form)
                    self.assertEqual(low(p, form[::-1]), form)
                    self.assertEqual(low(p, rows[::-1]), form)
                    self.assertEqual(low(p, rows + rows), form)
                    self.assertEqual(low(p, [rows[0]] + rows), form)
                    times = 1 + draw.below(p - 1)
                    self.assertEqual(low(p, [[times * n % p for n in row] for row in rows]), form)

    def test_forty_rows_of_length_36(self):
        for p in PRIMES:
            draw = Draw(200 + p)
            for rank in (1, 5, 20, 35, 36):
                base = draw.rows(p, rank, 36)
                rows = [mixed(p, draw.row(p, rank), base, 36) for _ in range(40 - rank)] + base
                form = self.told(p, rows, 36)
                self.assertLessEqual(len(form), rank)
                for row in rows:
                    self.assertEqual(mixed(p, shares(p, form, row), form, 36), row)
                for row in form:
                    self.assertEqual(low(p, rows + [row]), form)


class HasAndShares(unittest.TestCase):
    def test_all_small_forms(self):
        for p, length, _ in SMALL:
            for form in forms(p, length):
                span = mixtures(p, form, length)
                for row in all_rows(p, length):
                    told = shares(p, form, row)
                    self.assertIs(has(p, form, row), tuple(row) in span)
                    if tuple(row) in span:
                        self.assertIs(type(told), list)
                        self.assertEqual(len(told), len(form))
                        self.assertTrue(all(type(n) is int and 0 <= n < p for n in told))
                        self.assertEqual(mixed(p, told, form, length), row)
                    else:
                        self.assertIsNone(told)

    def test_noughts_and_the_empty_form(self):
        for p in PRIMES:
            for length in (1, 2, 36):
                self.assertIs(has(p, [], [0] * length), True)
                self.assertEqual(shares(p, [], [0] * length), [])
                self.assertIs(has(p, [], [0] * (length - 1) + [1]), False)
                self.assertIsNone(shares(p, [], [0] * (length - 1) + [p - 1]))
                self.assertEqual(shares(p, unit_rows(length), [0] * length), [0] * length)

    def test_long_rows(self):
        for p in PRIMES:
            draw = Draw(300 + p)
            form = low(p, draw.rows(p, 20, 36))
            free = [at for at in range(36) if at not in [row.index(1) for row in form]]
            for _ in range(20):
                wanted = draw.row(p, len(form))
                row = mixed(p, wanted, form, 36)
                self.assertEqual(shares(p, form, row), wanted)
                self.assertIs(has(p, form, row), True)
                at = free[draw.below(len(free))]
                row[at] = (row[at] + 1) % p
                self.assertIsNone(shares(p, form, row))
                self.assertIs(has(p, form, row), False)


class TwoSpans(unittest.TestCase):
    def test_all_small_forms(self):
        for p, length, _ in SMALL:
            known = [(form, mixtures(p, form, length)) for form in forms(p, length)]
            for one, ones in known:
                for other, others in known:
                    sums = {tuple((a + b) % p for a, b in zip(x, y)) for x in ones for y in others}
                    both = together(p, one, other)
                    cut = crossing(p, one, other)
                    self.assertTrue(is_low(p, both) and is_low(p, cut))
                    self.assertEqual(mixtures(p, both, length), sums)
                    self.assertEqual(mixtures(p, cut, length), ones & others)

    def test_drawn_forms(self):
        for p in PRIMES:
            for length, one, other in drawn_pairs(p):
                both, cut = together(p, one, other), crossing(p, one, other)
                self.assertTrue(low_by_the_words(both) and low_by_the_words(cut))
                self.assertEqual(together(p, other, one), both)
                self.assertEqual(crossing(p, other, one), cut)
                self.assertEqual(len(both) + len(cut), len(one) + len(other))
                self.assertTrue(all(has(p, both, row) for row in one + other))
                self.assertTrue(all(has(p, one, row) and has(p, other, row) for row in cut))

    def test_with_nought_all_and_itself(self):
        for p in PRIMES:
            for length, one, _ in drawn_pairs(p):
                whole = unit_rows(length)
                self.assertEqual(together(p, one, []), one)
                self.assertEqual(together(p, [], one), one)
                self.assertEqual(crossing(p, one, []), [])
                self.assertEqual(crossing(p, [], one), [])
                self.assertEqual(together(p, one, whole), whole)
                self.assertEqual(together(p, whole, one), whole)
                self.assertEqual(crossing(p, one, whole), one)
                self.assertEqual(crossing(p, whole, one), one)
                self.assertEqual(together(p, one, one), one)
                self.assertEqual(crossing(p, one, one), one)
        self.assertEqual(together(2, [], []), [])
        self.assertEqual(crossing(2, [], []), [])


class Across(unittest.TestCase):
    def test_all_small_forms(self):
        for p, length, _ in SMALL:
            for form in forms(p, length):
                wanted = {tuple(row) for row in all_rows(p, length)
                          if all(sum(a * b for a, b in zip(row, of)) % p == 0 for of in form)}
                told = across(p, length, form)
                self.assertTrue(is_low(p, told))
                self.assertEqual(mixtures(p, told, length), wanted)
                self.assertEqual(across(p, length, told), form)

    def test_drawn_forms(self):
        for p in PRIMES:
            for length, form, _ in drawn_pairs(p):
                told = across(p, length, form)
                self.assertTrue(low_by_the_words(told))
                self.assertEqual(len(told), length - len(form))
                for row in told:
                    self.assertEqual(len(row), length)
                    self.assertTrue(all(type(n) is int and 0 <= n < p for n in row))
                    for of in form:
                        self.assertEqual(sum(a * b for a, b in zip(row, of)) % p, 0)
                self.assertEqual(across(p, length, told), form)

    def test_nought_and_all(self):
        for p in PRIMES:
            for length in (1, 2, 3, 36):
                self.assertEqual(across(p, length, []), unit_rows(length))
                self.assertEqual(across(p, length, unit_rows(length)), [])


if __name__ == "__main__":
    unittest.main()

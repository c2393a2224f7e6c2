"""Points 5 and 6: whether any thing is a low list of rows."""

import unittest

from stillspans.spans import is_low, low
from tests.helper import NO_LISTS, NO_RESTS, PRIMES, Draw, all_lists_of_rows, low_by_the_words


def drawn_forms(p):
    draw = Draw(400 + p)
    for length, many in ((3, 2), (4, 3), (6, 4), (10, 5), (36, 20), (36, 36)):
        form = low(p, draw.rows(p, many, length))
        while len(form) < 2:
            form = low(p, draw.rows(p, many, length))
        yield form


class IsLow(unittest.TestCase):
    def no(self, p, thing):
        self.assertIs(is_low(p, thing), False, (p, thing))

    def test_all_small_lists(self):
        for p, length, most in ((2, 1, 3), (2, 2, 3), (2, 3, 3), (3, 2, 3), (3, 3, 2), (5, 2, 2)):
            for rows in all_lists_of_rows(p, length, most):
                self.assertIs(is_low(p, rows), low_by_the_words(rows), (p, rows))

    def test_forms(self):
        for p in PRIMES:
            self.assertIs(is_low(p, []), True)
            self.assertIs(is_low(p, [[1]]), True)
            for form in drawn_forms(p):
                self.assertIs(is_low(p, form), True)

    def test_forms_with_one_fault(self):
        for p in PRIMES:
            for form in drawn_forms(p):
                length = len(form[0])
                self.no(p, [form[1], form[0]] + form[2:])
                self.no(p, form[::-1])
                self.no(p, form[:1] + form)
                self.no(p, form + form[-1:])
                self.no(p, form + [[0] * length])
                self.no(p, [[0] * length] + form)
                if p > 2:
                    self.no(p, [[2 * n % p for n in form[0]]] + form[1:])
                    self.no(p, form[:-1] + [[2 * n % p for n in form[-1]]])
                both = [(a + b) % p for a, b in zip(form[0], form[1])]
                self.no(p, [both] + form[1:])
                self.no(p, form[:1] + [both] + form[2:])

    def test_rows_of_another_length(self):
        for p in PRIMES:
            for form in drawn_forms(p):
                self.no(p, form[:-1] + [form[-1] + [0]])
                self.no(p, [form[0] + [0]] + form[1:])
                self.no(p, form[:-1] + [[]])
        self.no(2, [[1, 0], [0, 1, 0]])
        self.no(2, [[1, 0, 0], [0, 1]])

    def test_lengths_0_36_and_37(self):
        for p in PRIMES:
            self.no(p, [[]])
            self.no(p, [[], []])
            for length, told in ((1, True), (35, True), (36, True), (37, False), (40, False)):
                row = [0] * (length - 1) + [1]
                self.assertIs(is_low(p, [row]), told)
                whole = [[1 if at == place else 0 for at in range(length)]
                         for place in range(length)]
                self.assertIs(is_low(p, whole), told)

    def test_wrong_numbers(self):
        for p in PRIMES:
            for wrong in NO_RESTS + (p, p + 1, -p, 1 - p, str(p)):
                self.no(p, [[1, wrong]])
                self.no(p, [[wrong, 1]])
                self.no(p, [[wrong]])
                self.no(p, [[1, 0, 1], [0, 1, wrong]])
                self.no(p, [[1, wrong, 0], [0, 0, 1]])

    def test_greatest_rest(self):
        for p in PRIMES:
            self.assertIs(is_low(p, [[1, p - 1]]), True)

    def test_other_kinds(self):
        for p in PRIMES:
            for thing in NO_LISTS:
                self.no(p, thing)
            for row in NO_LISTS + ((1, 0),):
                self.no(p, [row])
                self.no(p, [[1, 0], row])
            self.no(p, [[[1]]])
            self.no(p, [1, 0])
            self.no(p, [[1, 0], (0, 1)])
            self.no(p, ([1, 0], [0, 1]))
            self.no(p, [[[[[[1]]]]]])
            self.no(p, [["1", "0"]])
            self.no(p, ["10"])


if __name__ == "__main__":
    unittest.main()

"""Point 21: crews changed, side by side, and multiplied."""

import unittest

from stillspans.errors import NoPair, SpanError, TooMuch
from stillspans.several import beside, changed, multiplied
from tests.helper import (LARGEST, PRIMES, Draw, all_tables, beside_plainly, changed_plainly,
                          has_a_contrary, product_plainly, unit_rows, with_contrary)


def drawn(draw, p, size, many):
    return p, size, [draw.rows(p, size, size) for _ in range(many)]


def is_fine(p, size):
    return 1 <= size <= 6 and p ** size <= 700


class Several(unittest.TestCase):
    def refused(self, refusal, function, *handed):
        with self.assertRaises(refusal, msg=handed) as caught:
            function(*handed)
        self.assertIs(type(caught.exception), refusal)
        self.assertIsInstance(caught.exception, SpanError)

    def is_crew(self, told, p, size, many):
        self.assertIs(type(told), tuple)
        self.assertEqual(len(told), 3)
        self.assertEqual((told[0], told[1], len(told[2])), (p, size, many))
        self.assertIs(type(told[1]), int)
        self.assertIs(type(told[2]), list)
        for table in told[2]:
            self.assertIs(type(table), list)
            self.assertEqual([len(row) for row in table], [size] * size)
            for row in table:
                self.assertIs(type(row), list)
                self.assertTrue(all(type(n) is int and 0 <= n < p for n in row))

    def pairs(self, seed):
        """Fit crews, all sizes of the one with all sizes of the other."""
        draw = Draw(seed)
        for p, most in LARGEST:
            for size in range(1, most + 1):
                for other in range(1, most + 1):
                    many = 1 + draw.below(4)
                    yield drawn(draw, p, size, many), drawn(draw, p, other, many)


# two crews that have not one prime, or not as many tables
UNFIT = (((2, 1, [[[1]]]), (3, 1, [[[1]]])),
         ((3, 1, [[[1]], [[2]]]), (3, 1, [[[1]]])),
         ((2, 6, [unit_rows(6)]), (2, 6, [unit_rows(6)] * 4)),
         ((11, 2, [unit_rows(2)]), (7, 2, [unit_rows(2)])),
         ((11, 2, [unit_rows(2)] * 2), (11, 2, [unit_rows(2)] * 3)))


class Changed(Several):
    def test_by_all_small_tables(self):
        draw = Draw(201)
        for p, size in ((2, 1), (2, 2), (2, 3), (3, 1), (3, 2), (11, 1)):
            crew = drawn(draw, p, size, 2)
            for table in all_tables(p, size, size):
                if has_a_contrary(p, table):
                    self.assertEqual(changed(crew, table), changed_plainly(crew, table))
                else:
                    self.refused(NoPair, changed, crew, table)

    def test_number_by_number(self):
        draw = Draw(202)
        for p, most in LARGEST:
            for size in range(1, most + 1):
                for many in (1, 2, 3, 4):
                    crew = drawn(draw, p, size, many)
                    table = with_contrary(draw, p, size)
                    told = changed(crew, table)
                    self.is_crew(told, p, size, many)
                    # the contrary behind: so the changed one and the table come to the table and it
                    for one, other in zip(crew[2], told[2]):
                        self.assertEqual(product_plainly(p, other, table),
                                         product_plainly(p, table, one))

    def test_by_the_plain_table(self):
        draw = Draw(203)
        for p, most in LARGEST:
            crew = drawn(draw, p, most, 4)
            self.assertEqual(changed(crew, unit_rows(most)), crew)

    def test_no_contrary(self):
        draw = Draw(204)
        for p, most in LARGEST:
            for size in range(1, most + 1):
                crew = drawn(draw, p, size, 2)
                self.refused(NoPair, changed, crew, [[0] * size for _ in range(size)])
                if size > 1:
                    table = draw.rows(p, size, size)
                    table[-1] = list(table[0])
                    self.refused(NoPair, changed, crew, table)

    def test_another_size(self):
        draw = Draw(205)
        for p, most in LARGEST:
            for size in range(1, most + 1):
                crew = drawn(draw, p, size, 1)
                for rows in range(1, 7):
                    for columns in range(1, 7):
                        if (rows, columns) != (size, size):
                            table = [[1 if i == j else 0 for j in range(columns)]
                                     for i in range(rows)]
                            self.refused(NoPair, changed, crew, table)


class Beside(Several):
    def test_number_by_number(self):
        for one, other in self.pairs(211):
            p, size = one[0], one[1] + other[1]
            if is_fine(p, size):
                told = beside(one, other)
                self.is_crew(told, p, size, len(one[2]))
                self.assertEqual(told, beside_plainly(one, other))
                for table, ahead, behind in zip(told[2], one[2], other[2]):
                    for i in range(size):
                        for j in range(size):
                            wanted = 0
                            if i < one[1] and j < one[1]:
                                wanted = ahead[i][j]
                            if i >= one[1] and j >= one[1]:
                                wanted = behind[i - one[1]][j - one[1]]
                            self.assertEqual(table[i][j], wanted)

    def test_too_much_just_where_it_is_no_crew(self):
        seen = 0
        for one, other in self.pairs(212):
            if not is_fine(one[0], one[1] + other[1]):
                self.refused(TooMuch, beside, one, other)
                seen += 1
        self.assertGreater(seen, 30)

    def test_unfit(self):
        for one, other in UNFIT:
            self.refused(NoPair, beside, one, other)
            self.refused(NoPair, beside, other, one)


class Multiplied(Several):
    def test_number_by_number(self):
        seen = 0
        for one, other in self.pairs(221):
            p, m, n = one[0], one[1], other[1]
            if is_fine(p, m * n):
                told = multiplied(one, other)
                self.is_crew(told, p, m * n, len(one[2]))
                for table, ahead, behind in zip(told[2], one[2], other[2]):
                    for i in range(m):
                        for j in range(m):
                            for r in range(n):
                                for s in range(n):
                                    self.assertEqual(table[i * n + r][j * n + s],
                                                     ahead[i][j] * behind[r][s] % p)
                seen += m > 1 and n > 1 and m != n
        self.assertEqual(seen, 2)

    def test_by_one_row(self):
        draw = Draw(222)
        for p, most in LARGEST:
            crew = drawn(draw, p, most, 3)
            self.assertEqual(multiplied(crew, (p, 1, [[[1]]] * 3)), crew)
            self.assertEqual(multiplied((p, 1, [[[1]]] * 3), crew), crew)

    def test_too_much_just_where_it_is_no_crew(self):
        seen = 0
        for one, other in self.pairs(223):
            if not is_fine(one[0], one[1] * other[1]):
                self.refused(TooMuch, multiplied, one, other)
                seen += 1
        self.assertGreater(seen, 30)

    def test_unfit(self):
        for one, other in UNFIT:
            self.refused(NoPair, multiplied, one, other)
            self.refused(NoPair, multiplied, other, one)

    def test_greatest_ones(self):
        for p in PRIMES:
            fine = [(m, n) for m in range(1, 7) for n in range(1, 7) if is_fine(p, m * n)]
            for m, n in fine:
                if is_fine(p, m) and is_fine(p, n):
                    told = multiplied((p, m, [unit_rows(m)]), (p, n, [unit_rows(n)]))
                    self.assertEqual(told, (p, m * n, [unit_rows(m * n)]))


if __name__ == "__main__":
    unittest.main()

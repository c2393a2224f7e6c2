"""Points 9, 10 and 11: tables, what they lead to nought, and polynomials put on them."""

import unittest

from stillspans.spans import low
from stillspans.polys import is_poly
from stillspans.tables import (contrary, image, least, least_of, led, multiple, plain, product,
                               put_on, rank, table_sum, to_nought, turned)
from tests.helper import (LARGEST, PRIMES, Draw, all_lists_of_rows, all_polys, all_rows,
                          contrary_plainly, led_plainly, led_to_nought, low_by_the_words, mixed,
                          mixtures, product_plainly, put_on_plainly, times_plainly, turned_plainly,
                          unit_rows, with_contrary)

SIZES = range(1, 7)
SHAPES = [(rows, columns) for rows in SIZES for columns in SIZES]

# by each prime: the sizes of the square tables that are gone through, all of them
SMALL = ((2, 1), (2, 2), (2, 3), (3, 1), (3, 2), (5, 1), (7, 1), (11, 1))

# by each prime the greatest degree of a polynomial that is handed in
DEGREES = ((2, 12), (3, 8), (5, 5), (7, 4), (11, 3))


def noughts(rows, columns):
    return [[0] * columns for _ in range(rows)]


def all_tables(p, size):
    return [table for table in all_lists_of_rows(p, size, size) if len(table) == size]


def of_rank(draw, p, rows, columns, most):
    """A drawn table of at most that rank, its rows mixed of so many."""
    base = draw.rows(p, most, columns)
    return [mixed(p, draw.row(p, most), base, columns) for _ in range(rows)]


def tables_of(p, rows, columns):
    """Tables of noughts, of full rank and of each lesser one, and drawn ones."""
    draw = Draw(1000 * p + 10 * rows + columns)
    yield noughts(rows, columns)
    yield [[1 if row == column else 0 for column in range(columns)] for row in range(rows)]
    yield draw.rows(p, rows, columns)
    yield draw.rows(p, 1, columns) * rows
    for most in range(1, min(rows, columns)):
        yield of_rank(draw, p, rows, columns, most)
    # the last row alone, and the last column alone
    yield noughts(rows - 1, columns) + [[p - 1] * columns]
    yield [[0] * (columns - 1) + [1 + draw.below(p - 1)] for _ in range(rows)]


class Told(unittest.TestCase):
    def same(self, told, wanted, p):
        """That a table is told, of lists of rests, and which one."""
        self.assertIs(type(told), list)
        for row in told:
            self.assertIs(type(row), list)
            for number in row:
                self.assertIs(type(number), int)
                self.assertTrue(0 <= number < p)
        self.assertEqual(told, wanted)


class Leading(Told):
    def test_led(self):
        for p in PRIMES:
            for rows, columns in SHAPES:
                for table in tables_of(p, rows, columns):
                    draw = Draw(p)
                    for row in [[0] * rows, [p - 1] * rows] + draw.rows(p, 3, rows):
                        self.same([led(p, row, table)], [led_plainly(p, row, table)], p)
                    for row, of in zip(unit_rows(rows), table):
                        self.assertEqual(led(p, row, table), of)

    def test_the_product_leads_as_the_one_and_then_the_other(self):
        for p in PRIMES:
            draw = Draw(1100 + p)
            for rows, columns in SHAPES:
                for behind in SIZES:
                    one, other = draw.rows(p, rows, columns), draw.rows(p, columns, behind)
                    told = product(p, one, other)
                    self.same(told, product_plainly(p, one, other), p)
                    for row in draw.rows(p, 2, rows) + unit_rows(rows):
                        self.assertEqual(led_plainly(p, row, told),
                                         led_plainly(p, led_plainly(p, row, one), other))

    def test_all_small_products(self):
        for p, size in ((2, 2), (3, 1), (11, 1)):
            for one in all_tables(p, size):
                for other in all_tables(p, size):
                    self.same(product(p, one, other), product_plainly(p, one, other), p)

    def test_sums(self):
        for p in PRIMES:
            draw = Draw(1200 + p)
            for rows, columns in SHAPES:
                one, other = draw.rows(p, rows, columns), draw.rows(p, rows, columns)
                wanted = [[(one[i][j] + other[i][j]) % p for j in range(columns)]
                          for i in range(rows)]
                self.same(table_sum(p, one, other), wanted, p)
                self.same(table_sum(p, one, noughts(rows, columns)), one, p)
                self.same(table_sum(p, one, multiple(p, p - 1, one)), noughts(rows, columns), p)

    def test_multiples(self):
        for p in PRIMES:
            draw = Draw(1300 + p)
            for rows, columns in SHAPES:
                table = draw.rows(p, rows, columns)
                for rest in range(p):
                    wanted = [[rest * number % p for number in row] for row in table]
                    self.same(multiple(p, rest, table), wanted, p)
                self.assertEqual(multiple(p, 1, table), table)

    def test_turned(self):
        for p in PRIMES:
            draw = Draw(1400 + p)
            for rows, columns in SHAPES:
                table = draw.rows(p, rows, columns)
                told = turned(table)
                self.same(told, turned_plainly(table), p)
                self.assertEqual((len(told), len(told[0])), (columns, rows))
                self.assertEqual(turned(told), table)
        self.assertEqual(turned([[1, 2, 3], [4, 5, 6]]), [[1, 4], [2, 5], [3, 6]])

    def test_the_plain_table_leads_each_row_to_itself(self):
        for size in SIZES:
            self.same(plain(size), unit_rows(size), 2)
            for p in PRIMES:
                for row in Draw(p).rows(p, 5, size):
                    self.assertEqual(led(p, row, plain(size)), row)

    def test_written_out(self):
        self.assertEqual(led(5, [1, 2], [[1, 0, 3], [4, 1, 1]]), [4, 2, 0])
        self.assertEqual(product(3, [[1, 2]], [[0, 1], [1, 1]]), [[2, 0]])
        self.assertEqual(product(2, [[1], [0]], [[1, 1, 0]]), [[1, 1, 0], [0, 0, 0]])
        self.assertEqual(table_sum(7, [[6, 1]], [[1, 1]]), [[0, 2]])
        self.assertEqual(multiple(11, 10, [[1], [2]]), [[10], [9]])


class Nought(Told):
    def test_rank_and_image(self):
        for p in PRIMES:
            for rows, columns in SHAPES:
                for table in tables_of(p, rows, columns):
                    told = image(p, table)
                    self.same(told, low(p, table), p)
                    self.assertTrue(low_by_the_words(told))
                    self.assertIs(type(rank(p, table)), int)
                    self.assertEqual(rank(p, table), len(told))

    def test_ranks_by_going_through_all_rows(self):
        for p in (2, 3):
            for rows, columns in SHAPES:
                if p ** rows <= 81 and p ** columns <= 81:
                    for table in tables_of(p, rows, columns):
                        reached = {tuple(led_plainly(p, row, table)) for row in all_rows(p, rows)}
                        self.assertEqual(len(reached), p ** rank(p, table))
                        self.assertEqual(mixtures(p, image(p, table), columns), reached)

    def test_known_ranks(self):
        for p in PRIMES:
            for rows, columns in SHAPES:
                self.assertEqual(rank(p, noughts(rows, columns)), 0)
                self.assertEqual(image(p, noughts(rows, columns)), [])
                whole = [[1 if i == j else 0 for j in range(columns)] for i in range(rows)]
                self.assertEqual(rank(p, whole), min(rows, columns))
                self.assertEqual(rank(p, [[1] * columns] * rows), 1)
            for size in SIZES:
                self.assertEqual(image(p, plain(size)), unit_rows(size))

    def test_to_nought(self):
        for p in PRIMES:
            for rows, columns in SHAPES:
                for table in tables_of(p, rows, columns):
                    told = to_nought(p, table)
                    self.same(told, low(p, told), p)
                    self.assertTrue(low_by_the_words(told))
                    self.assertEqual(len(told) + rank(p, table), rows)
                    for row in told:
                        self.assertEqual(len(row), rows)
                        self.assertEqual(led_plainly(p, row, table), [0] * columns)

    def test_to_nought_by_going_through_all_rows(self):
        for p in PRIMES:
            for rows, columns in SHAPES:
                if p ** rows <= 125:
                    for table in tables_of(p, rows, columns):
                        wanted = {tuple(row) for row in led_to_nought(p, table)}
                        self.assertEqual(mixtures(p, to_nought(p, table), rows), wanted)

    def test_to_nought_of_noughts_and_of_the_plain_table(self):
        for p in PRIMES:
            for rows, columns in SHAPES:
                self.assertEqual(to_nought(p, noughts(rows, columns)), unit_rows(rows))
            for size in SIZES:
                self.assertEqual(to_nought(p, plain(size)), [])
        self.assertEqual(to_nought(3, [[1, 2], [2, 1], [0, 1]]), [[1, 1, 0]])
        self.assertEqual(to_nought(5, [[1], [2], [3]]), [[1, 0, 3], [0, 1, 1]])

    def test_contraries(self):
        for p in PRIMES:
            for size in SIZES:
                draw = Draw(1500 + 10 * p + size)
                for _ in range(5):
                    table = draw.rows(p, size, size)
                    while rank(p, table) < size:
                        table = draw.rows(p, size, size)
                    told = contrary(p, table)
                    self.same(product_plainly(p, told, table), unit_rows(size), p)
                    self.same(product_plainly(p, table, told), unit_rows(size), p)
                    self.same(contrary(p, told), table, p)
                self.same(contrary(p, plain(size)), unit_rows(size), p)
                ring = unit_rows(size)[1:] + unit_rows(size)[:1]
                self.same(contrary(p, ring), turned_plainly(ring), p)

    def test_no_contraries(self):
        for p in PRIMES:
            for size in SIZES:
                for table in tables_of(p, size, size):
                    if rank(p, table) < size:
                        self.assertIsNone(contrary(p, table))
                self.assertIsNone(contrary(p, noughts(size, size)))
                if size > 1:
                    self.assertIsNone(contrary(p, [[1] * size] * size))

    def test_all_small_contraries(self):
        for p, size in SMALL:
            for table in all_tables(p, size):
                if len(mixtures(p, table, size)) == p ** size:
                    self.same(contrary(p, table), contrary_plainly(p, table), p)
                else:
                    self.assertIsNone(contrary(p, table))


class PutOn(Told):
    def test_put_on(self):
        for p, most in DEGREES:
            draw = Draw(1600 + p)
            for size in SIZES:
                for table in tables_of(p, size, size):
                    self.same(put_on(p, [], table), noughts(size, size), p)
                    self.same(put_on(p, [1], table), unit_rows(size), p)
                    self.same(put_on(p, [p - 1], table), multiple(p, p - 1, plain(size)), p)
                    self.same(put_on(p, [0, 1], table), table, p)
                    self.same(put_on(p, [0, 0, 1], table), product_plainly(p, table, table), p)
                    for degree in range(most + 1):
                        poly = draw.poly(p, degree)
                        self.same(put_on(p, poly, table), put_on_plainly(p, poly, table), p)

    def test_of_a_product(self):
        for p, most in DEGREES:
            draw = Draw(1700 + p)
            for size in SIZES:
                table = draw.rows(p, size, size)
                for degree in range(most + 1):
                    one, other = draw.poly(p, degree), draw.poly(p, most - degree)
                    wanted = product_plainly(p, put_on(p, one, table), put_on(p, other, table))
                    self.same(put_on(p, times_plainly(p, one, other), table), wanted, p)

    def test_written_out(self):
        self.assertEqual(put_on(5, [1, 2, 3], [[0, 1], [1, 1]]), [[4, 0], [0, 4]])
        self.assertEqual(put_on(2, [1, 0, 1], [[0, 1], [0, 0]]), [[1, 0], [0, 1]])
        self.assertEqual(put_on(3, [0, 2], [[0, 1], [0, 2]]), [[0, 2], [0, 1]])


def rising(p, most):
    """All polynomials with 1 as their last rest, of degrees from 0 on."""
    return [poly for poly in all_polys(p, most) if poly and poly[-1] == 1]


class Least(Told):
    def first(self, p, most, table, row=None):
        """The first one by degree that comes to noughts, or leads the row to them."""
        for poly in rising(p, most):
            rows = put_on_plainly(p, poly, table)
            if row is not None:
                rows = [led_plainly(p, row, rows)]
            if not any(any(one) for one in rows):
                return poly
        self.fail("none comes to noughts")

    def told_least(self, p, table, row=None):
        """What is told, after a look at all but whether there is one of lesser degree."""
        told = least(p, table) if row is None else least_of(p, table, row)
        self.assertIs(type(told), list)
        self.assertIs(is_poly(p, told), True)
        self.assertEqual(told[-1], 1)
        rows = put_on_plainly(p, told, table)
        if row is not None:
            rows = [led_plainly(p, row, rows)]
        for one in rows:
            self.assertEqual(one, [0] * len(table))
        return told

    def test_all_small_tables(self):
        for p, size in SMALL:
            for table in all_tables(p, size):
                self.assertEqual(self.told_least(p, table), self.first(p, size, table))
                if p ** size <= 5:
                    for row in all_rows(p, size):
                        wanted = self.first(p, size, table, row)
                        self.assertEqual(self.told_least(p, table, row), wanted)

    def test_tables_of_crews_against_a_plain_search(self):
        for p, most in LARGEST:
            for size in range(2, most + 1):
                draw = Draw(1800 + 10 * p + size)
                table = of_rank(draw, p, size, size, 1 + draw.below(size))
                self.assertEqual(self.told_least(p, table), self.first(p, size, table))
                row = draw.row(p, size)
                self.assertEqual(self.told_least(p, table, row), self.first(p, size, table, row))

    def test_no_lesser_degree_leads_to_noughts(self):
        for p in PRIMES:
            for size in SIZES:
                for table in tables_of(p, size, size):
                    degree = len(self.told_least(p, table)) - 1
                    powers = [put_on_plainly(p, [0] * at + [1], table) for at in range(degree)]
                    flat = [sum(power, []) for power in powers]
                    self.assertEqual(len(low(p, flat)), degree)
                    for row in Draw(p).rows(p, 2, size) + unit_rows(size):
                        degree = len(self.told_least(p, table, row)) - 1
                        rows = [led_plainly(p, row, power) for power in powers[:degree]]
                        self.assertEqual(len(low(p, rows)), degree)

    def test_of_the_row_of_noughts(self):
        for p in PRIMES:
            for size in SIZES:
                for table in tables_of(p, size, size):
                    self.assertEqual(least_of(p, table, [0] * size), [1])

    def test_of_known_tables(self):
        for p in PRIMES:
            for size in SIZES:
                self.assertEqual(least(p, noughts(size, size)), [0, 1])
                self.assertEqual(least(p, plain(size)), [p - 1, 1])
                row = [p - 1] * size
                self.assertEqual(least_of(p, noughts(size, size), row), [0, 1])
                self.assertEqual(least_of(p, plain(size), row), [p - 1, 1])
                ring = unit_rows(size)[1:] + unit_rows(size)[:1]
                wanted = [p - 1] + [0] * (size - 1) + [1]
                self.assertEqual(least(p, ring), wanted)
                self.assertEqual(least_of(p, ring, unit_rows(size)[0]), wanted)
                self.assertEqual(least_of(p, ring, [1] * size), [p - 1, 1])
                down = unit_rows(size)[1:] + [[0] * size]
                self.assertEqual(least(p, down), [0] * size + [1])
                for at, unit in enumerate(unit_rows(size)):
                    self.assertEqual(least_of(p, down, unit), [0] * (size - at) + [1])

    def test_the_least_one_is_the_same_for_a_changed_table(self):
        for p in PRIMES:
            for size in (2, 3):
                draw = Draw(1900 + p)
                table, change = draw.rows(p, size, size), with_contrary(draw, p, size)
                other = product_plainly(p, change, product_plainly(p, table, contrary(p, change)))
                self.assertEqual(least(p, other), least(p, table))


if __name__ == "__main__":
    unittest.main()

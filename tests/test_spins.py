"""Points 14 and 15: still spans, the spin of rows, and a row spun."""

import unittest
from itertools import product

from stillspans.spans import low
from stillspans.spins import is_still, spin, spun
from tests.helper import (PRIMES, Draw, all_lists_of_rows, all_rows, crew_with_a_still_span,
                          led_plainly, low_by_the_words, mixtures, some_crews, spin_plainly,
                          unit_rows, widened)


def forms(p, size):
    return [rows for rows in all_lists_of_rows(p, size, size) if low_by_the_words(rows)]


def small_crews():
    """All crews of one table by 2 and 3 with two rows, and drawn ones with more."""
    for p in (2, 3):
        for numbers in product(range(p), repeat=4):
            yield p, 2, [[list(numbers[:2]), list(numbers[2:])]]
    draw = Draw(3000)
    for size in (1, 2, 3):
        for many in (1, 2, 3, 4):
            yield 2, size, [draw.rows(2, size, size) for _ in range(many)]
    for cut in (1, 2):
        for many in (1, 2, 3, 4):
            yield crew_with_a_still_span(draw, 2, 3, cut, many)
    for p in (3, 5, 7, 11):
        yield crew_with_a_still_span(draw, p, 2, 1, 2)


def still_plainly(crew, span):
    """Whether each row of a span, a set of tuples, is led into it by each table."""
    p, _, tables = crew
    return all(tuple(led_plainly(p, row, table)) in span for row in span for table in tables)


def spun_plainly(crew, row):
    """The list of tuples by the words of point 15, with the span of its rows as a set."""
    p, size, tables = crew
    told = []
    span = {(0,) * size}
    if any(row):
        told.append((row, []))
        span = widened(p, span, row)
    for turn, way in told:
        for number in range(len(tables)):
            behind = led_plainly(p, turn, tables[number])
            if tuple(behind) not in span:
                told.append((behind, way + [number]))
                span = widened(p, span, behind)
    return told


class IsStill(unittest.TestCase):
    def test_all_forms_of_small_crews(self):
        for crew in small_crews():
            p, size, _ = crew
            for form in forms(p, size):
                wanted = still_plainly(crew, mixtures(p, form, size))
                self.assertIs(is_still(crew, form), wanted, (crew, form))

    def test_nought_and_all(self):
        for crew in some_crews(3100):
            self.assertIs(is_still(crew, []), True)
            self.assertIs(is_still(crew, unit_rows(crew[1])), True)

    def test_drawn_forms(self):
        for crew in some_crews(3200):
            p, size, tables = crew
            draw = Draw(p)
            for many in range(size + 1):
                form = low(p, draw.rows(p, many, size))
                wanted = still_plainly(crew, mixtures(p, form, size))
                self.assertIs(is_still(crew, form), wanted)

    def test_each_table_counts(self):
        keeps, moves = [[1, 1], [0, 1]], [[0, 1], [1, 0]]
        for many in (1, 2, 3, 4):
            self.assertIs(is_still((2, 2, [keeps] * many), [[0, 1]]), True)
            for at in range(many):
                tables = [keeps] * at + [moves] + [keeps] * (many - 1 - at)
                self.assertIs(is_still((2, 2, tables), [[0, 1]]), False)

    def test_each_row_counts(self):
        down = [[1, 0, 0], [0, 1, 0], [1, 0, 1]]
        self.assertIs(is_still((3, 3, [down]), [[1, 0, 0], [0, 1, 0]]), True)
        self.assertIs(is_still((3, 3, [down]), [[0, 1, 0], [0, 0, 1]]), False)
        self.assertIs(is_still((3, 3, [down]), [[0, 1, 0]]), True)
        self.assertIs(is_still((3, 3, [down]), [[0, 0, 1]]), False)
        # rows are led as rows: turned, it would be the other way round
        self.assertIs(is_still((2, 2, [[[1, 1], [0, 1]]]), [[1, 0]]), False)
        self.assertIs(is_still((2, 2, [[[1, 0], [1, 1]]]), [[1, 0]]), True)


class Spin(unittest.TestCase):
    def told(self, crew, rows):
        p, size, _ = crew
        told = spin(crew, rows)
        self.assertIs(type(told), list)
        self.assertTrue(low_by_the_words(told))
        for row in told:
            self.assertEqual((type(row), len(row)), (list, size))
            self.assertTrue(all(type(n) is int and 0 <= n < p for n in row))
        self.assertEqual(mixtures(p, told, size), spin_plainly(crew, rows), (crew, rows))
        return told

    def test_the_least_of_all_still_spans(self):
        for crew in small_crews():
            p, size, _ = crew
            spans = [mixtures(p, form, size) for form in forms(p, size)]
            still = [span for span in spans if still_plainly(crew, span)]
            lists = [[row] for row in all_rows(p, size)]
            lists += [Draw(at).rows(p, 2 + at, size) for at in range(4)]
            for rows in lists:
                told = mixtures(p, self.told(crew, rows), size)
                within = [span for span in still if all(tuple(row) in span for row in rows)]
                self.assertIn(told, within)
                self.assertEqual(len(told), min(len(span) for span in within))

    def test_drawn_rows(self):
        for crew in some_crews(3300):
            p, size, _ = crew
            draw = Draw(p + size)
            for many in (1, 1, 2, 3, 6):
                self.told(crew, draw.rows(p, many, size))
            for row in unit_rows(size):
                self.told(crew, [row])

    def test_nought_and_all(self):
        for crew in some_crews(3400):
            p, size, _ = crew
            self.assertEqual(spin(crew, []), [])
            for many in (1, 2, 6):
                self.assertEqual(spin(crew, [[0] * size] * many), [])
            self.assertEqual(spin(crew, unit_rows(size)), unit_rows(size))
            self.assertEqual(spin(crew, unit_rows(size)[::-1]), unit_rows(size))

    def test_noughts_and_the_same_row_twice_change_nothing(self):
        for crew in some_crews(3500):
            p, size, _ = crew
            row = Draw(p).row(p, size)
            wanted = spin(crew, [row])
            self.assertEqual(self.told(crew, [[0] * size, row]), wanted)
            self.assertEqual(self.told(crew, [row, row, [0] * size]), wanted)
            self.assertEqual(self.told(crew, wanted), wanted)

    def test_one_row_after_the_other(self):
        for p, most in ((2, 6), (3, 5), (5, 4), (7, 3), (11, 2)):
            for size in range(2, most + 1):
                ring = unit_rows(size)[1:] + unit_rows(size)[:1]
                down = unit_rows(size)[1:] + [[0] * size]
                for at, unit in enumerate(unit_rows(size)):
                    self.assertEqual(spin((p, size, [ring]), [unit]), unit_rows(size))
                    self.assertEqual(spin((p, size, [down]), [unit]), unit_rows(size)[at:])
                self.assertEqual(spin((p, size, [ring]), [[p - 1] * size]), [[1] * size])

    def test_written_out(self):
        self.assertEqual(spin((3, 2, [[[1, 2], [0, 1]]]), [[0, 2]]), [[0, 1]])
        self.assertEqual(spin((3, 2, [[[1, 2], [0, 1]]]), [[2, 0]]), [[1, 0], [0, 1]])
        self.assertEqual(spin((2, 3, [[[1, 0, 0], [1, 1, 0], [0, 0, 1]]]), [[0, 1, 1]]),
                         [[1, 0, 0], [0, 1, 1]])


class Spun(unittest.TestCase):
    def told(self, crew, row):
        p, size, tables = crew
        told = spun(crew, row)
        self.assertIs(type(told), list)
        for pair in told:
            self.assertIs(type(pair), tuple)
            self.assertEqual((type(pair[0]), type(pair[1])), (list, list))
            self.assertTrue(all(type(n) is int for n in pair[0] + pair[1]))
            self.assertEqual(len(pair[0]), size)
            # each way walked again
            walked = row
            for number in pair[1]:
                walked = led_plainly(p, walked, tables[number])
            self.assertEqual(pair[0], walked)
        self.assertEqual(told, spun_plainly(crew, row))
        # the rows are a base of the spin
        rows = [led for led, _ in told]
        self.assertEqual(mixtures(p, rows, size), spin_plainly(crew, [row]))
        self.assertEqual(len(mixtures(p, rows, size)), p ** len(rows))
        return told

    def test_all_rows_of_small_crews(self):
        for crew in small_crews():
            for row in all_rows(crew[0], crew[1]):
                self.told(crew, row)

    def test_drawn_rows(self):
        for crew in some_crews(3600):
            p, size, _ = crew
            for row in Draw(p).rows(p, 3, size) + unit_rows(size) + [[p - 1] * size]:
                self.told(crew, row)

    def test_noughts(self):
        for crew in some_crews(3700):
            self.assertEqual(spun(crew, [0] * crew[1]), [])

    def test_it_begins_with_the_row_as_it_is(self):
        for p in PRIMES:
            for first in range(1, p):
                self.assertEqual(spun((p, 2, [unit_rows(2)]), [first, 1]), [([first, 1], [])])
                self.assertEqual(spun((p, 1, [[[p - 1]]]), [first]), [([first], [])])

    def test_tuple_by_tuple_and_table_by_table(self):
        # the first table leads a to b, the second a to c, c to d and b to nought
        one = [[0, 1, 0, 0], [0, 0, 0, 0], [0, 0, 0, 0], [0, 0, 0, 0]]
        other = [[0, 0, 1, 0], [0, 0, 0, 0], [0, 0, 0, 1], [0, 0, 0, 0]]
        a, b, c, d = unit_rows(4)
        self.assertEqual(spun((2, 4, [one, other]), a),
                         [(a, []), (b, [0]), (c, [1]), (d, [1, 1])])
        self.assertEqual(spun((2, 4, [other, one]), a),
                         [(a, []), (c, [0]), (b, [1]), (d, [0, 0])])
        # b comes to e ahead of what c comes to, though c stands there when b's turn comes
        one = unit_rows(5)[1:2] + unit_rows(5)[3:4] + unit_rows(5)[4:5] + [[0] * 5] * 2
        other = unit_rows(5)[2:3] + [[0] * 5] * 4
        a, b, c, d, e = unit_rows(5)
        self.assertEqual(spun((3, 5, [one, other]), a),
                         [(a, []), (b, [0]), (c, [1]), (d, [0, 0]), (e, [1, 0])])
        self.assertEqual(spun((3, 5, [other, one]), a),
                         [(a, []), (c, [0]), (b, [1]), (e, [0, 1]), (d, [1, 1])])

    def test_mixtures_of_the_rows_so_far(self):
        # both tables lead to the same, and the third to a mixture of it and the first row
        to_b = [[0, 1], [0, 0]]
        mixed = [[1, 1], [0, 0]]
        self.assertEqual(spun((5, 2, [to_b, to_b, mixed]), [1, 0]), [([1, 0], []), ([0, 1], [0])])
        self.assertEqual(spun((5, 2, [mixed, to_b, to_b]), [1, 0]), [([1, 0], []), ([1, 1], [0])])
        self.assertEqual(spun((5, 2, [mixed, to_b]), [3, 0]), [([3, 0], []), ([3, 3], [0])])


if __name__ == "__main__":
    unittest.main()

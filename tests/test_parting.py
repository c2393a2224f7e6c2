"""Points 28 and 29, and 3 of them: partings, and crews that are alike."""

import unittest

from stillspans.along import base
from stillspans.errors import NoPair, SpanError
from stillspans.parting import alike, falls_apart, parting
from stillspans.spans import low
from stillspans.towers import part
from tests.helper import (LARGEST, Draw, all_tables, bare_plainly, beside_plainly,
                          changed_plainly, companion, crew_with_a_still_span, crews_over_fields,
                          goes_along_plainly, has_a_contrary, mixtures, product_plainly,
                          some_crews, still_spans_plainly, times_plainly, turned_plainly,
                          unit_rows, with_contrary, with_one_else)


def flat(table):
    return [number for row in table for number in row]


def shaped(row, size):
    return [list(row[at:at + size]) for at in range(0, len(row), size)]


def noughts(size):
    return [[0] * size for _ in range(size)]


def shift(size):
    return unit_rows(size)[1:] + [[0] * size]


def falls_apart_plainly(crew):
    """Whether two still spans other than nought have only noughts in common and are together all."""
    p, size, _ = crew
    spans = [span for span in still_spans_plainly(crew) if len(span) > 1]
    return any(len(one) * len(other) == p ** size and len(one & other) == 1
               for one in spans for other in spans)


def comes_apart_by_a_table(crew):
    """Whether a table that goes along is its own square, other than noughts and plain; None where too many."""
    p, size, _ = crew
    rows = [flat(table) for table in base(crew, crew)]
    if p ** len(rows) > 700:
        return None
    for row in mixtures(p, rows, size * size):
        table = shaped(row, size)
        if any(row) and table != unit_rows(size) and product_plainly(p, table, table) == table:
            return True
    return False


def drawn(draw, p, size, many):
    return p, size, [draw.rows(p, size, size) for _ in range(many)]


def small_crews(seed):
    draw = Draw(seed)
    for p, size in ((2, 1), (2, 2), (2, 3), (2, 4), (3, 2), (3, 3), (5, 2), (7, 2), (11, 2)):
        yield p, size, [noughts(size)]
        yield p, size, [shift(size), unit_rows(size)]
        yield p, size, [unit_rows(size)[1:] + unit_rows(size)[:1]]
        for cut in range(size):
            for many in (1, 2):
                yield crew_with_a_still_span(draw, p, size, cut, many)
        for first in range(1, size):
            several = beside_plainly(drawn(draw, p, first, 1), drawn(draw, p, size - first, 1))
            yield changed_plainly(several, with_contrary(draw, p, size))


def beside_one_another(seed):
    """Crews of each size, two or three beside one another, alike and unlike, and changed."""
    draw = Draw(seed)
    for p, most in LARGEST:
        for size in range(1, most // 2 + 1):
            one, other = drawn(draw, p, size, 2), drawn(draw, p, size, 2)
            for pair in ((one, one), (one, other),
                         (one, changed_plainly(one, with_contrary(draw, p, size)))):
                several = beside_plainly(*pair)
                yield several
                yield changed_plainly(several, with_contrary(draw, p, 2 * size))
                if 3 * size <= most:
                    several = beside_plainly(several, one)
                    yield changed_plainly(several, with_contrary(draw, p, 3 * size))
            if 2 * size < most:
                rest = drawn(draw, p, most - 2 * size, 2)
                several = beside_plainly(beside_plainly(one, rest), one)
                yield changed_plainly(several, with_contrary(draw, p, most))


def many_kinds(seed):
    yield from some_crews(seed)
    yield from beside_one_another(seed + 1)
    for _, _, crew in crews_over_fields(seed + 2, 1):
        yield crew
        if 2 * crew[1] <= dict(LARGEST)[crew[0]]:
            change = with_contrary(Draw(seed), crew[0], 2 * crew[1])
            yield changed_plainly(beside_plainly(crew, crew), change)


class Partings(unittest.TestCase):
    def is_parting(self, crew, told):
        """That it is one, demand by demand of point 28; returned are its parts."""
        p, size, _ = crew
        self.assertIs(type(told), list)
        self.assertGreaterEqual(len(told), 1)
        total = noughts(size)
        for at, table in enumerate(told):
            self.assertIs(type(table), list)
            self.assertEqual([len(row) for row in table], [size] * size)
            self.assertTrue(all(type(row) is list for row in table))
            self.assertTrue(all(type(n) is int and 0 <= n < p for n in flat(table)))
            self.assertTrue(any(flat(table)), (crew, told))
            self.assertTrue(goes_along_plainly(crew, crew, table), (crew, told))
            for behind, other in enumerate(told):
                self.assertEqual(product_plainly(p, table, other),
                                 table if at == behind else noughts(size), (crew, told))
            total = [[(a + b) % p for a, b in zip(*rows)] for rows in zip(total, table)]
        self.assertEqual(total, unit_rows(size), (crew, told))
        found = [part(crew, [], low(p, table)) for table in told]
        self.assertEqual(sum(one[1] for one in found), size)
        for one in found:
            self.assertIs(falls_apart(one), False)
            if p ** one[1] <= 32:
                self.assertFalse(falls_apart_plainly(one), (crew, one))
            self.assertIn(comes_apart_by_a_table(one), (False, None), (crew, one))
        return found

    def refused(self, function, *handed):
        with self.assertRaises(NoPair, msg=handed) as caught:
            function(*handed)
        self.assertIs(type(caught.exception), NoPair)
        self.assertIsInstance(caught.exception, SpanError)


class FallsApart(Partings):
    def test_small_crews(self):
        seen = [0, 0]
        for seed in (501, 502):
            for crew in small_crews(seed):
                wanted = falls_apart_plainly(crew)
                self.assertIs(falls_apart(crew), wanted, crew)
                seen[wanted] += 1
        self.assertGreater(min(seen), 40)

    def test_all_crews_of_one_small_table(self):
        for p, size in ((2, 1), (3, 1), (2, 2), (3, 2), (2, 3)):
            for table in all_tables(p, size, size):
                crew = (p, size, [table])
                self.assertIs(falls_apart(crew), falls_apart_plainly(crew), crew)

    def test_against_tables_that_are_their_own_squares(self):
        seen = 0
        for crew in many_kinds(503):
            wanted = comes_apart_by_a_table(crew)
            if wanted is not None:
                self.assertIs(falls_apart(crew), wanted, crew)
                seen += 1
        self.assertGreater(seen, 150)

    def test_beside_one_another(self):
        for crew in beside_one_another(504):
            self.assertIs(falls_apart(crew), True, crew)

    def test_noughts_and_plain_alone(self):
        for p, most in LARGEST:
            for size in range(1, most + 1):
                for table in (noughts(size), unit_rows(size)):
                    self.assertIs(falls_apart((p, size, [table])), size > 1)

    def test_one_table_falls_apart_by_the_bare_parts_of_its_polynomial(self):
        draw = Draw(505)
        for p, most in LARGEST:
            for degree in range(1, most + 1):
                bare = max(poly for poly in bare_plainly(p, degree) if len(poly) > degree and poly[-1] == 1)
                poly = [1]
                for times in range(1, most // degree + 1):
                    poly = times_plainly(p, poly, bare)
                    size = times * degree
                    crew = (p, size, [companion(p, poly)])
                    self.assertIs(falls_apart(crew), False, crew)
                    self.assertIs(falls_apart(changed_plainly(crew, with_contrary(draw, p, size))), False)
                    if size < most:
                        other = times_plainly(p, poly, [1 if bare == [0, 1] else 0, 1])
                        self.assertIs(falls_apart((p, size + 1, [companion(p, other)])), True, other)

    def test_of_the_crew_turned_the_same(self):
        for crew in some_crews(506):
            p, size, tables = crew
            turned = (p, size, [turned_plainly(table) for table in tables])
            self.assertIs(falls_apart(turned), falls_apart(crew), crew)


class Parting(Partings):
    def test_small_crews(self):
        for seed in (511, 512):
            for crew in small_crews(seed):
                self.is_parting(crew, parting(crew))

    def test_of_each_size(self):
        seen = {}
        for crew in many_kinds(513):
            many = len(self.is_parting(crew, parting(crew)))
            self.assertIs(falls_apart(crew), many > 1)
            seen[many] = seen.get(many, 0) + 1
        self.assertGreater(seen[1], 50)
        self.assertGreater(seen[2], 30)
        self.assertTrue({3, 4, 5, 6} <= set(seen), seen)

    def test_of_one_that_does_not_fall_apart_the_plain_table(self):
        for p, most in LARGEST:
            for size in range(1, most + 1):
                for crew in ((p, size, [shift(size)]),
                             (p, size, [shift(size), turned_plainly(shift(size))])):
                    self.assertEqual(parting(crew), [unit_rows(size)])

    def test_noughts_and_plain_alone(self):
        for p, most in LARGEST:
            for size in range(1, most + 1):
                for table in (noughts(size), unit_rows(size)):
                    for many in (1, 4):
                        crew = (p, size, [table] * many)
                        found = self.is_parting(crew, parting(crew))
                        self.assertEqual([one[1] for one in found], [1] * size)

    def test_by_the_bare_parts_of_a_polynomial(self):
        draw = Draw(514)
        for p, most in LARGEST:
            # (x)(x)(x - 1) and so on: as many as unlike bare ones, as large as these so often
            poly = times_plainly(p, [0, 1], [p - 1, 1])
            crew = (p, 2, [companion(p, poly)])
            self.assertEqual([one[1] for one in self.is_parting(crew, parting(crew))], [1, 1])
            if most > 2:
                poly = times_plainly(p, poly, [0, 1])
                crew = changed_plainly((p, 3, [companion(p, poly)]), with_contrary(draw, p, 3))
                found = self.is_parting(crew, parting(crew))
                self.assertEqual(sorted(one[1] for one in found), [1, 2])

    def test_two_partings_are_paired_off(self):
        draw = Draw(515)
        for crew in list(many_kinds(516))[::2]:
            p, size, _ = crew
            other = changed_plainly(crew, with_contrary(draw, p, size))
            ahead = self.is_parting(crew, parting(crew))
            behind = self.is_parting(other, parting(other))
            self.assertEqual(len(ahead), len(behind))
            for one in ahead:
                found = [at for at, two in enumerate(behind) if alike(one, two) is not None]
                self.assertTrue(found, crew)
                del behind[found[0]]


class Alike(Partings):
    def can_be_undone(self, one, other):
        table = alike(one, other)
        self.assertIs(type(table), list, (one, other))
        self.assertTrue(all(type(row) is list and len(row) == other[1] for row in table))
        self.assertTrue(all(type(n) is int and 0 <= n < one[0] for n in flat(table)))
        self.assertTrue(goes_along_plainly(one, other, table), (one, other, table))
        self.assertTrue(has_a_contrary(one[0], table), (one, other, table))

    def test_a_crew_and_it_changed(self):
        draw = Draw(521)
        for crew in list(many_kinds(522))[::2]:
            other = changed_plainly(crew, with_contrary(draw, crew[0], crew[1]))
            self.can_be_undone(crew, other)
            self.can_be_undone(other, crew)

    def test_all_small_ones(self):
        changes = [table for table in all_tables(2, 2, 2) if has_a_contrary(2, table)]
        crews = [(2, 2, [table, other]) for table in all_tables(2, 2, 2)
                 for other in (noughts(2), shift(2))]
        for one in crews:
            for other in crews:
                if any(goes_along_plainly(one, other, table) for table in changes):
                    self.can_be_undone(one, other)
                else:
                    self.assertIsNone(alike(one, other), (one, other))

    def test_small_ones_with_one_number_put_otherwise(self):
        changes = {size: [table for table in all_tables(2, size, size) if has_a_contrary(2, table)]
                   for size in (1, 2, 3)}
        draw = Draw(523)
        seen = [0, 0]
        for size in (1, 2, 3):
            for _ in range(30):
                crew = drawn(draw, 2, size, 1 + draw.below(2))
                i, j = draw.below(size), draw.below(size)
                table = [list(row) for row in crew[2][0]]
                table[i][j] = 1 - table[i][j]
                other = (2, size, [table] + crew[2][1:])
                wanted = any(goes_along_plainly(crew, other, one) for one in changes[size])
                seen[wanted] += 1
                if wanted:
                    self.can_be_undone(crew, other)
                else:
                    self.assertIsNone(alike(crew, other), (crew, other))
        self.assertGreater(min(seen), 3)

    def test_unlike_by_one_number(self):
        for crew in list(many_kinds(524))[::2]:
            p, size, tables = crew
            table = [list(row) for row in tables[0]]
            # another sum along the middle: changed tables have the same one
            table[-1][-1] = (table[-1][-1] + 1) % p
            other = (p, size, [table] + tables[1:])
            self.assertIsNone(alike(crew, other), crew)
            self.assertIsNone(alike(other, crew), crew)

    def test_two_beside_one_another_in_either_order(self):
        draw = Draw(525)
        for p, most in LARGEST:
            for first in range(1, most):
                one, other = drawn(draw, p, first, 2), drawn(draw, p, most - first, 2)
                self.can_be_undone(beside_plainly(one, other), beside_plainly(other, one))
                third = drawn(draw, p, 1, 2)
                if first + 2 <= most:
                    other = drawn(draw, p, most - first - 1, 2)
                    self.can_be_undone(beside_plainly(beside_plainly(one, other), third),
                                       beside_plainly(third, beside_plainly(other, one)))

    def test_unlike_in_how_often_a_part_stands(self):
        draw = Draw(526)
        for p, most in LARGEST:
            if most > 2:
                one, other = (p, 1, [[[0]]]), (p, 1, [[[1]]])
                twice = beside_plainly(beside_plainly(one, one), other)
                self.assertIsNone(alike(twice, beside_plainly(beside_plainly(one, other), other)))
                self.can_be_undone(twice, beside_plainly(beside_plainly(one, other), one))
            # one with both still spans side by side, one with but one of them
            whole = (p, 2, [noughts(2)])
            self.assertIsNone(alike(whole, (p, 2, [shift(2)])))
            self.assertIsNone(alike((p, 2, [shift(2)]), whole))
            self.can_be_undone((p, 2, [shift(2)]), (p, 2, [turned_plainly(shift(2))]))
            self.assertIsNone(alike(drawn(draw, p, 1, 1), whole))

    def test_parts_of_unlike_sizes(self):
        for p, most in LARGEST:
            if most > 3:
                one, two, three = [(p, size, [shift(size)]) for size in (1, 2, 3)]
                self.assertIsNone(alike(beside_plainly(two, two), beside_plainly(one, three)))
                self.assertIsNone(alike(beside_plainly(one, three), beside_plainly(two, two)))
                self.can_be_undone(beside_plainly(three, one), beside_plainly(one, three))

    def test_noughts_and_plain_alone(self):
        for p, most in LARGEST:
            for size in range(1, most + 1):
                for table in (noughts(size), unit_rows(size)):
                    crew = (p, size, [table] * 3)
                    self.can_be_undone(crew, crew)
                    off = with_one_else(table, 0, with_one_else(table[0], size - 1, p - 1))
                    if off != table:
                        self.assertIsNone(alike(crew, (p, size, [table, table, off])))

    def test_unlike_sizes(self):
        for p, most in LARGEST:
            for size in range(1, most + 1):
                for other in range(1, most + 1):
                    if other != size:
                        for of in (noughts, unit_rows, shift):
                            self.assertIsNone(alike((p, size, [of(size)]), (p, other, [of(other)])))

    def test_unfit(self):
        for one, other in (((2, 1, [[[1]]]), (3, 1, [[[1]]])), ((3, 1, [[[1]], [[2]]]), (3, 1, [[[1]]])),
                           ((5, 2, [unit_rows(2)]), (7, 3, [unit_rows(3)])),
                           ((2, 6, [unit_rows(6)]), (2, 1, [[[1]]] * 4))):
            self.refused(alike, one, other)
            self.refused(alike, other, one)


if __name__ == "__main__":
    unittest.main()

"""Points 19 and 20: tables that go along, their base, and tight crews that are alike."""

import unittest

from stillspans.along import alike_tight, base, field_degree, goes_along
from stillspans.errors import NoPair, NotTight, SpanError
from stillspans.spans import low
from tests.helper import (LARGEST, NO_LISTS, NO_RESTS, Draw, all_tables, bare_plainly,
                          beside_plainly, changed_plainly, companion, crew_with_a_still_span,
                          crews_over_fields, goes_along_plainly, has_a_contrary, low_by_the_words,
                          mixed, mixtures, over_a_field, tight_plainly, unit_rows,
                          with_contrary, with_one_else)


def flat(table):
    return [number for row in table for number in row]


def shaped(row, columns):
    return [list(row[at:at + columns]) for at in range(0, len(row), columns)]


def noughts(rows, columns):
    return [[0] * columns for _ in range(rows)]


def drawn_pairs(seed):
    """Fit crews of all sizes, drawn ones and others that have more in common."""
    draw = Draw(seed)
    for p, most in LARGEST:
        for size in range(1, most + 1):
            for other in range(1, most + 1):
                many = 1 + draw.below(4)
                yield ((p, size, [draw.rows(p, size, size) for _ in range(many)]),
                       (p, other, [draw.rows(p, other, other) for _ in range(many)]))
                yield (p, size, [unit_rows(size)] * many), (p, other, [unit_rows(other)] * many)
            crew = crew_with_a_still_span(draw, p, size, size // 2, 2)
            yield crew, crew
            yield crew, changed_plainly(crew, with_contrary(draw, p, size))
            if 2 * size <= most:
                yield crew, beside_plainly(crew, crew)
                yield beside_plainly(crew, crew), crew


class Pairs(unittest.TestCase):
    def refused(self, refusal, function, *handed):
        with self.assertRaises(refusal, msg=handed) as caught:
            function(*handed)
        self.assertIs(type(caught.exception), refusal)
        self.assertIsInstance(caught.exception, SpanError)

    def is_table(self, p, rows, columns, thing):
        self.assertIs(type(thing), list)
        self.assertEqual(len(thing), rows)
        for row in thing:
            self.assertIs(type(row), list)
            self.assertEqual(len(row), columns)
            self.assertTrue(all(type(n) is int and 0 <= n < p for n in row))


UNFIT = (((2, 1, [[[1]]]), (3, 1, [[[1]]])),
         ((5, 2, [unit_rows(2)]), (7, 2, [unit_rows(2)])),
         ((3, 1, [[[1]], [[2]]]), (3, 1, [[[1]]])),
         ((3, 2, [unit_rows(2)]), (3, 2, [unit_rows(2)] * 4)),
         ((2, 2, [unit_rows(2)] * 2), (3, 2, [unit_rows(2)] * 3)))


class GoesAlong(Pairs):
    def test_all_tables_of_small_crews(self):
        draw = Draw(101)
        for p, size, other in ((2, 1, 1), (2, 2, 2), (2, 1, 3), (2, 3, 2), (3, 2, 1), (3, 2, 2)):
            for many in (1, 2):
                one = (p, size, [draw.rows(p, size, size) for _ in range(many)])
                two = (p, other, [draw.rows(p, other, other) for _ in range(many)])
                for pair in ((one, two), (one, one), (two, one)):
                    for table in all_tables(p, pair[0][1], pair[1][1]):
                        self.assertIs(goes_along(*pair, table), goes_along_plainly(*pair, table))

    def test_mixtures_go_along_and_with_one_number_more_do_not(self):
        draw = Draw(102)
        seen = [0, 0]
        for one, other in drawn_pairs(103):
            p, size, _ = one
            rows = [flat(table) for table in base(one, other)]
            found = shaped(mixed(p, draw.row(p, len(rows)), rows, size * other[1]), other[1])
            self.assertIs(goes_along(one, other, found), True, (one, other, found))
            i, j = draw.below(size), draw.below(other[1])
            off = with_one_else(found, i, with_one_else(found[i], j, (found[i][j] + 1) % p))
            wanted = goes_along_plainly(one, other, off)
            self.assertIs(goes_along(one, other, off), wanted, (one, other, off))
            seen[wanted] += 1
        self.assertGreater(seen[False], 100)
        self.assertGreater(seen[True], 5)

    def test_wrong_forms(self):
        one = (3, 2, [unit_rows(2), noughts(2, 2)])
        other = (3, 3, [unit_rows(3), noughts(3, 3)])
        self.assertIs(goes_along(one, other, noughts(2, 3)), True)
        self.assertIs(goes_along(one, other, [[0, 1, 2], [2, 0, 1]]), True)
        for thing in (noughts(3, 2), noughts(2, 2), noughts(3, 3), noughts(1, 3), noughts(2, 4), [],
                      [[]], [[], []], [[0, 0, 0]], [0] * 6, [[0, 0, 0], [0, 0]], [[0, 0, 0], []],
                      noughts(3, 3)[:2] + [None], noughts(6, 1), noughts(1, 6), [noughts(2, 3)],
                      tuple(noughts(2, 3)), [(0, 0, 0), (0, 0, 0)], [[0, 0, 0], (0, 0, 0)],
                      [[0, 0, 0], "000"], [[0, 0, 0], 0], [[0, 0, 0], None]):
            self.assertIs(goes_along(one, other, thing), False, thing)
            self.assertIs(goes_along(other, one, thing), thing == noughts(3, 2), thing)

    def test_other_kinds(self):
        one = (3, 2, [unit_rows(2)])
        for thing in NO_LISTS:
            self.assertIs(goes_along(one, one, thing), False, thing)
            self.assertIs(goes_along(one, one, [thing, thing]), False, thing)
            self.assertIs(goes_along(one, one, [[0, 0], thing]), False, thing)
        for thing in NO_RESTS + (3, 4):
            for i in (0, 1):
                for j in (0, 1):
                    table = noughts(2, 2)
                    table[i][j] = thing
                    self.assertIs(goes_along(one, one, table), False, table)

    def test_truths_are_no_rests(self):
        one = (2, 1, [[[1]]])
        self.assertIs(goes_along(one, one, [[1]]), True)
        self.assertIs(goes_along(one, one, [[True]]), False)
        self.assertIs(goes_along(one, one, [[False]]), False)

    def test_unfit(self):
        for one, other in UNFIT:
            for thing in (None, unit_rows(2), [[1]], [[0]], "x", []):
                self.refused(NoPair, goes_along, one, other, thing)
                self.refused(NoPair, goes_along, other, one, thing)


class Base(Pairs):
    def test_against_all_tables_of_small_crews(self):
        draw = Draw(111)
        for p, size, other in ((2, 1, 1), (2, 2, 2), (2, 1, 3), (2, 3, 2), (2, 2, 3), (3, 2, 1),
                               (3, 2, 2), (2, 3, 3), (5, 1, 2), (7, 1, 1), (11, 1, 2)):
            for many in (1, 2, 4):
                one = (p, size, [draw.rows(p, size, size) for _ in range(many)])
                two = (p, other, [draw.rows(p, other, other) for _ in range(many)])
                for pair in ((one, two), (one, one), (two, two), (two, one)):
                    wanted = {tuple(flat(table)) for table in all_tables(p, pair[0][1], pair[1][1])
                              if goes_along_plainly(*pair, table)}
                    rows = [flat(table) for table in base(*pair)]
                    self.assertEqual(mixtures(p, rows, pair[0][1] * pair[1][1]), wanted, pair)

    def test_each_goes_along_and_as_rows_they_are_low(self):
        for one, other in drawn_pairs(112):
            told = base(one, other)
            self.assertIs(type(told), list)
            for table in told:
                self.is_table(one[0], one[1], other[1], table)
                self.assertTrue(goes_along_plainly(one, other, table), (one, other))
            self.assertTrue(low_by_the_words([flat(table) for table in told]), (one, other))

    def test_how_many(self):
        draw = Draw(113)
        for p, most in LARGEST:
            for size in range(1, most + 1):
                poly = draw.row(p, size) + [1]
                own = (p, size, [companion(p, poly)])
                # one row spins to all: what it is led to tells the table
                self.assertEqual(len(base(own, own)), size)
                for other in range(1, most + 1):
                    for of in (noughts, lambda n, _: unit_rows(n)):
                        one, two = (p, size, [of(size, size)] * 4), (p, other, [of(other, other)] * 4)
                        self.assertEqual(base(one, two),
                                         [shaped(row, other) for row in unit_rows(size * other)])
                    one, two = (p, size, [noughts(size, size)]), (p, other, [unit_rows(other)])
                    self.assertEqual(base(one, two), [])
                    self.assertEqual(base(two, one), [])

    def test_from_a_crew_to_itself_the_plain_table_goes_along(self):
        draw = Draw(114)
        for p, most in LARGEST:
            for size in range(1, most + 1):
                for many in (1, 2, 3, 4):
                    crew = (p, size, [draw.rows(p, size, size) for _ in range(many)])
                    rows = [flat(table) for table in base(crew, crew)]
                    self.assertEqual(low(p, rows + [flat(unit_rows(size))]), rows)

    def test_beside_itself(self):
        for _, _, crew in crews_over_fields(115, 2):
            if 2 * crew[1] <= dict(LARGEST)[crew[0]]:
                twice = beside_plainly(crew, crew)
                many = len(base(crew, crew))
                self.assertEqual(len(base(crew, twice)), 2 * many)
                self.assertEqual(len(base(twice, crew)), 2 * many)
                self.assertEqual(len(base(twice, twice)), 4 * many)

    def test_unfit(self):
        for one, other in UNFIT:
            self.refused(NoPair, base, one, other)
            self.refused(NoPair, base, other, one)


def tight_crews(seed):
    """Tight crews of each size over each field, with the degree of their field."""
    for many in (1, 2, 3):
        for degree, times, crew in crews_over_fields(seed + many, many):
            if tight_plainly(crew):
                yield degree, times, crew


class AlikeTight(Pairs):
    def can_be_undone(self, one, other, table):
        self.is_table(one[0], one[1], other[1], table)
        self.assertTrue(goes_along_plainly(one, other, table), (one, other, table))
        self.assertTrue(has_a_contrary(one[0], table), (one, other, table))

    def test_a_crew_and_it_changed(self):
        draw = Draw(121)
        for _, _, crew in tight_crews(122):
            self.can_be_undone(crew, crew, alike_tight(crew, crew))
            other = changed_plainly(crew, with_contrary(draw, crew[0], crew[1]))
            self.can_be_undone(crew, other, alike_tight(crew, other))
            self.can_be_undone(other, crew, alike_tight(other, crew))

    def test_unlike_ones(self):
        seen = 0
        for _, _, crew in tight_crews(123):
            p, size, tables = crew
            # what is put on the one's tables is put on the other's: so no table goes along
            table = [[(n + (i == j)) % p for j, n in enumerate(row)]
                     for i, row in enumerate(tables[0])]
            other = (p, size, [table] + tables[1:])
            if tight_plainly(other):
                told = alike_tight(crew, other)
                trace = sum(tables[0][i][i] for i in range(size)) % p
                if trace != sum(table[i][i] for i in range(size)) % p:
                    self.assertIsNone(told, (crew, other))
                    seen += 1
                elif told is not None:
                    self.can_be_undone(crew, other, told)
        self.assertGreater(seen, 20)

    def test_all_small_ones(self):
        crews = [(2, 2, [one, other]) for one in all_tables(2, 2, 2)
                 for other in ([[0, 1], [1, 0]], [[0, 1], [1, 1]])]
        crews = [crew for crew in crews if tight_plainly(crew)]
        changes = [table for table in all_tables(2, 2, 2) if has_a_contrary(2, table)]
        for one in crews:
            for other in crews:
                told = alike_tight(one, other)
                if any(goes_along_plainly(one, other, table) for table in changes):
                    self.can_be_undone(one, other, told)
                else:
                    self.assertIsNone(told, (one, other))

    def test_of_one_row(self):
        for p, _ in LARGEST:
            for a in range(p):
                for b in range(p):
                    told = alike_tight((p, 1, [[[1]], [[a]]]), (p, 1, [[[1]], [[b]]]))
                    if a == b:
                        self.can_be_undone((p, 1, [[[a]]]), (p, 1, [[[b]]]), told)
                    else:
                        self.assertIsNone(told)

    def test_unlike_sizes(self):
        of = {}
        for _, _, crew in tight_crews(124):
            of.setdefault((crew[0], len(crew[2])), {})[crew[1]] = crew
        for crews in of.values():
            for size, one in crews.items():
                for length, other in crews.items():
                    if size != length:
                        self.assertIsNone(alike_tight(one, other), (one, other))

    def test_each_table_but_noughts_has_a_contrary(self):
        draw = Draw(125)
        for _, _, crew in tight_crews(126):
            p, size, _ = crew
            other = changed_plainly(crew, with_contrary(draw, p, size))
            rows = [flat(table) for table in base(crew, other)]
            for _ in range(5):
                table = shaped(mixed(p, draw.row(p, len(rows)), rows, size * size), size)
                self.assertIs(has_a_contrary(p, table), any(flat(table)))

    def test_refusals(self):
        draw = Draw(127)
        for p, most in LARGEST:
            poly = max(poly for poly in bare_plainly(p, 2) if len(poly) == 3 and poly[-1] == 1)
            tight = (p, 2, [companion(p, poly)])
            for size in range(2, most + 1):
                loose = crew_with_a_still_span(draw, p, size, 1, 1)
                for pair in ((tight, loose), (loose, tight), (loose, loose)):
                    self.refused(NotTight, alike_tight, *pair)
                twice = (p, size, loose[2] * 2)
                for pair in ((tight, twice), (twice, tight), (loose, twice)):
                    self.refused(NoPair, alike_tight, *pair)
        for one, other in UNFIT:
            self.refused(NoPair, alike_tight, one, other)
            self.refused(NoPair, alike_tight, other, one)


class FieldDegree(Pairs):
    def told(self, crew, wanted):
        told = field_degree(crew)
        self.assertIs(type(told), int)
        self.assertEqual(told, wanted, crew)

    def test_size_1(self):
        for p, _ in LARGEST:
            for rest in range(p):
                self.told((p, 1, [[[rest]]]), 1)

    def test_bare_polynomials(self):
        for p, most in LARGEST:
            for size in range(1, most + 1):
                some = [poly for poly in bare_plainly(p, size) if len(poly) > size and poly[-1] == 1]
                for poly in (min(some), max(some)):
                    # what goes along with such a table is what polynomials put on it come to
                    self.told((p, size, [companion(p, poly)]), size)

    def test_as_many_as_tables_that_go_along(self):
        draw = Draw(131)
        seen = set()
        for p, size in ((2, 1), (2, 2), (2, 3), (3, 2), (5, 2)):
            for _ in range(12):
                poly = max(poly for poly in bare_plainly(p, size) if len(poly) > size)
                crew = (p, size, [draw.rows(p, size, size) for _ in range(1 + draw.below(2))])
                if _ % 4 == 0:
                    crew = over_a_field(draw, p, poly, 1, 2)
                if tight_plainly(crew):
                    many = sum(goes_along_plainly(crew, crew, table)
                               for table in all_tables(p, size, size))
                    degree = field_degree(crew)
                    self.assertEqual(p ** degree, many, crew)
                    seen.add((p, size, degree))
        self.assertTrue({(2, 2, 1), (2, 2, 2), (2, 3, 1), (2, 3, 3), (3, 2, 1), (3, 2, 2)} <= seen, seen)

    def test_over_fields(self):
        seen = 0
        for degree, times, crew in tight_crews(132):
            told = field_degree(crew)
            # its tables may happen to be ones over a larger field
            self.assertEqual(told % degree, 0)
            self.assertEqual(crew[1] % told, 0)
            seen += told == degree and times > 1 and degree > 1
        self.assertGreater(seen, 5)

    def test_not_tight(self):
        draw = Draw(133)
        for p, most in LARGEST:
            for size in range(2, most + 1):
                for cut in range(1, size):
                    self.refused(NotTight, field_degree, crew_with_a_still_span(draw, p, size, cut, 2))
                self.refused(NotTight, field_degree, (p, size, [noughts(size, size)]))
                self.refused(NotTight, field_degree, (p, size, [unit_rows(size)] * 4))


if __name__ == "__main__":
    unittest.main()

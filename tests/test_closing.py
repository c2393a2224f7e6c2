"""Points 25 to 27, and 3 of them: the closing, what of it vanishes, and the bottom."""

import unittest

from stillspans.along import base, field_degree
from stillspans.closing import bottom, closing, parts_wholly, vanishing, vanishing_power
from stillspans.spans import low
from stillspans.towers import part, tower
from tests.helper import (LARGEST, Draw, added, all_rows, beside_plainly, changed_plainly, companion,
                          crew_with_a_still_span, crews_over_fields, led_plainly,
                          low_by_the_words, mixtures, product_plainly, some_crews,
                          still_spans_plainly, turned_plainly, unit_rows, with_contrary)


def flat(table):
    return [number for row in table for number in row]


def noughts(size):
    return [[0] * size for _ in range(size)]


def single(size, i, j):
    table = noughts(size)
    table[i][j] = 1
    return table


def shift(size):
    return unit_rows(size)[1:] + [[0] * size]


def closing_plainly(crew):
    """All tables to which words come, as a set of tuples: sums and products until none is new."""
    p, size, tables = crew
    found = mixtures(p, [flat(unit_rows(size))], size * size)
    known = [unit_rows(size)]
    due = list(tables)
    while due:
        table = due.pop()
        if tuple(flat(table)) not in found:
            known.append(table)
            found = mixtures(p, [flat(one) for one in known], size * size)
            due.extend(product_plainly(p, one, other) for one in known for other in known
                       if table in (one, other))
    return found


def shaped(row, size):
    return [list(row[at:at + size]) for at in range(0, len(row), size)]


def falls(crew, forms, table):
    """Whether the table leads each form's rows into the form ahead."""
    p, size, _ = crew
    return all(tuple(led_plainly(p, row, table)) in mixtures(p, lower, size)
               for lower, upper in zip([[]] + forms, forms) for row in upper)


def unlike_parts(crew):
    """The parts of a tower, of those that are alike just one."""
    forms = tower(crew)
    found = []
    for lower, upper in zip([[]] + forms, forms):
        one = part(crew, lower, upper)
        if not any(base(one, other) for other in found):
            found.append(one)
    return found


def small_crews(seed):
    draw = Draw(seed)
    for p, size in ((2, 1), (2, 2), (2, 3), (3, 1), (3, 2), (5, 2), (7, 1), (11, 1)):
        yield p, size, [noughts(size)]
        yield p, size, [unit_rows(size)] * 3
        yield p, size, [shift(size)]
        yield p, size, [single(size, 0, size - 1), unit_rows(size)]
        for cut in range(size):
            for many in (1, 2):
                yield crew_with_a_still_span(draw, p, size, cut, many)
    yield 3, 3, [shift(3)]
    yield 3, 3, [single(3, 0, 0), single(3, 0, 2)]


def many_kinds(seed):
    draw = Draw(seed)
    yield from some_crews(seed)
    for _, _, crew in crews_over_fields(seed + 1, 2):
        p, size, _ = crew
        yield crew
        if 2 * size <= dict(LARGEST)[p]:
            twice = beside_plainly(crew, crew)
            # above each part of the one there are parts of the other
            for table in twice[2]:
                for row in table[size:]:
                    row[:size] = draw.row(p, size)
            yield changed_plainly(twice, with_contrary(draw, p, 2 * size))


class Closings(unittest.TestCase):
    def are_tables(self, crew, told):
        p, size, _ = crew
        self.assertIs(type(told), list)
        for table in told:
            self.assertIs(type(table), list)
            self.assertEqual([len(row) for row in table], [size] * size)
            self.assertTrue(all(type(row) is list for row in table))
            self.assertTrue(all(type(n) is int and 0 <= n < p for n in flat(table)))
        rows = [flat(table) for table in told]
        self.assertTrue(low_by_the_words(rows), crew)
        return rows


class Closing(Closings):
    def test_small_crews(self):
        for crew in small_crews(401):
            rows = self.are_tables(crew, closing(crew))
            self.assertEqual(mixtures(crew[0], rows, crew[1] ** 2), closing_plainly(crew), crew)

    def test_of_each_size(self):
        for crew in many_kinds(402):
            p, size, tables = crew
            told = closing(crew)
            rows = self.are_tables(crew, told)
            for table in [unit_rows(size)] + tables:
                self.assertEqual(low(p, rows + [flat(table)]), rows, crew)
            # nothing new comes by one table more, and so by no word
            for table in tables:
                behind = [flat(product_plainly(p, one, table)) for one in told]
                self.assertEqual(low(p, rows + behind), rows, crew)

    def test_how_many(self):
        for p, most in LARGEST:
            for size in range(1, most + 1):
                self.assertEqual(closing((p, size, [noughts(size)])), [unit_rows(size)])
                self.assertEqual(closing((p, size, [unit_rows(size)] * 4)), [unit_rows(size)])
                self.assertEqual(len(closing((p, size, [shift(size)]))), size)
                poly = Draw(403).row(p, size) + [1]
                self.assertEqual(len(closing((p, size, [companion(p, poly)]))), size)
                ring = [unit_rows(size)[1:] + unit_rows(size)[:1], single(size, 0, 0)]
                self.assertEqual([flat(table) for table in closing((p, size, ring))],
                                 unit_rows(size * size))

    def test_of_the_crew_turned_turned(self):
        for crew in some_crews(404):
            p, size, tables = crew
            turned = (p, size, [turned_plainly(table) for table in tables])
            self.assertEqual(len(closing(turned)), len(closing(crew)))
            rows = [flat(turned_plainly(table)) for table in closing(crew)]
            self.assertEqual(low(p, rows), [flat(table) for table in closing(turned)])


class Vanishing(Closings):
    def test_small_crews(self):
        for crew in small_crews(411):
            p, size, _ = crew
            forms = tower(crew)
            rows = self.are_tables(crew, vanishing(crew))
            wanted = {row for row in closing_plainly(crew) if falls(crew, forms, shaped(row, size))}
            self.assertEqual(mixtures(p, rows, size * size), wanted, crew)

    def test_each_is_of_the_closing_and_leads_each_form_into_the_one_ahead(self):
        draw = Draw(412)
        some = 0
        for crew in many_kinds(413):
            p, size, _ = crew
            told = vanishing(crew)
            rows = self.are_tables(crew, told)
            all_told = [flat(table) for table in closing(crew)]
            self.assertEqual(low(p, all_told + rows), all_told, crew)
            change = with_contrary(draw, p, size)
            other = [low(p, [led_plainly(p, row, change) for row in form])
                     for form in tower(changed_plainly(crew, change))]
            for forms in (tower(crew), other):
                self.assertTrue(all(falls(crew, forms, table) for table in told), crew)
            some += len(told) > 0
        self.assertGreater(some, 50)

    def test_as_many_as_point_3_tells(self):
        for seed in (414, 415):
            for crew in many_kinds(seed):
                squares = sum(one[1] ** 2 // field_degree(one) for one in unlike_parts(crew))
                self.assertEqual(len(closing(crew)), len(vanishing(crew)) + squares, crew)

    def test_none(self):
        for p, most in LARGEST:
            for size in range(1, most + 1):
                for table in (noughts(size), unit_rows(size)):
                    self.assertEqual(vanishing((p, size, [table] * 2)), [])
                self.assertEqual(vanishing((p, size, [shift(size), turned_plainly(shift(size))])), [])

    def test_of_a_shift(self):
        for p, most in LARGEST:
            for size in range(1, most + 1):
                crew = (p, size, [shift(size)])
                # the sums of powers of it but the power 0
                powers = []
                power = shift(size)
                while any(flat(power)):
                    powers.append(power)
                    power = product_plainly(p, power, shift(size))
                self.assertEqual(low(p, [flat(table) for table in powers]),
                                 [flat(table) for table in vanishing(crew)])


class VanishingPower(Closings):
    def as_told(self, crew):
        told = vanishing_power(crew)
        self.assertIs(type(told), int)
        p, size, _ = crew
        found = vanishing(crew)
        products = found
        times = 1
        while products:
            # a mixture of products vanishes where these do
            rows = low(p, [flat(product_plainly(p, one, other)) for one in products for other in found])
            products = [shaped(row, size) for row in rows]
            times += 1
        self.assertEqual(told, times, crew)
        return told

    def test_of_each_size(self):
        seen = set()
        for crew in many_kinds(421):
            seen.add(self.as_told(crew))
        for crew in small_crews(422):
            seen.add(self.as_told(crew))
        self.assertTrue({1, 2} <= seen)

    def test_products_one_by_one(self):
        for crew in small_crews(423):
            p, size, _ = crew
            found = mixtures(p, [flat(table) for table in vanishing(crew)], size * size)
            if len(found) <= 64:
                tables = [shaped(row, size) for row in sorted(found)]
                products = tables
                for _ in range(vanishing_power(crew) - 1):
                    self.assertTrue(any(any(flat(table)) for table in products))
                    products = [product_plainly(p, one, other) for one in products for other in tables
                                if any(flat(one))] or [noughts(size)]
                    products = [shaped(row, size) for row in sorted({tuple(flat(t)) for t in products})]
                self.assertFalse(any(any(flat(table)) for table in products), crew)

    def test_1_where_none_vanishes(self):
        for p, most in LARGEST:
            for size in range(1, most + 1):
                self.assertEqual(vanishing_power((p, size, [noughts(size)])), 1)
                self.assertEqual(vanishing_power((p, size, [unit_rows(size)])), 1)

    def test_of_a_shift_its_size(self):
        draw = Draw(424)
        for p, most in LARGEST:
            for size in range(1, most + 1):
                crew = (p, size, [shift(size)])
                self.assertEqual(vanishing_power(crew), size)
                change = with_contrary(draw, p, size)
                self.assertEqual(vanishing_power(changed_plainly(crew, change)), size)

    def test_of_tables_with_noughts_below_the_middle(self):
        for p, most in LARGEST:
            for size in range(2, most + 1):
                crew = (p, size, [shift(size), single(size, 0, 0)])
                self.assertEqual(vanishing_power(crew), size)
                crew = (p, size, [single(size, 0, size - 1), single(size, 0, 0)])
                self.assertEqual(vanishing_power(crew), 2)


class Bottom(Closings):
    def test_small_crews(self):
        for crew in small_crews(431):
            p, size, _ = crew
            spans = [span for span in still_spans_plainly(crew) if len(span) > 1]
            wanted = frozenset([(0,) * size])
            for span in spans:
                if not any(other < span for other in spans):
                    wanted = added(p, wanted, span)
            told = bottom(crew)
            self.assertTrue(low_by_the_words(told))
            self.assertEqual(mixtures(p, told, size), wanted, crew)
            self.assertIs(parts_wholly(crew), len(wanted) == p ** size, crew)

    def test_the_rows_that_each_vanishing_table_leads_to_nought(self):
        for crew in many_kinds(432):
            p, size, _ = crew
            found = vanishing(crew)
            wanted = [row for row in all_rows(p, size)
                      if not any(any(led_plainly(p, row, table)) for table in found)]
            told = bottom(crew)
            self.assertIs(type(told), list)
            self.assertTrue(all(type(row) is list and len(row) == size for row in told))
            self.assertTrue(low_by_the_words(told))
            self.assertEqual(mixtures(p, told, size), {tuple(row) for row in wanted}, crew)

    def test_wholly_just_where_none_vanishes(self):
        seen = [0, 0]
        for crew in many_kinds(433):
            told = parts_wholly(crew)
            self.assertIs(told, vanishing(crew) == [], crew)
            self.assertIs(told, bottom(crew) == unit_rows(crew[1]), crew)
            seen[told] += 1
        self.assertGreater(min(seen), 50)

    def test_beside(self):
        for p, most in LARGEST:
            for size in range(1, most):
                # a shift's only tight still span is that of the row which it leads to nought
                one = (p, size, [shift(size)])
                other = (p, most - size, [unit_rows(most - size)])
                rows = unit_rows(most)
                self.assertEqual(bottom(beside_plainly(one, other)), rows[size - 1:])
                self.assertIs(parts_wholly(beside_plainly(one, other)), size == 1)


if __name__ == "__main__":
    unittest.main()

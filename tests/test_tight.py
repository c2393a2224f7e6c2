"""Points 16, 18 and 3: tight crews, still spans, and a paper of every crew."""

import unittest

from stillspans.crews import worths
from stillspans.errors import NoPaper
from stillspans.looker import look
from stillspans.tight import is_tight, paper, still_span
from tests.helper import (LARGEST, Draw, all_tables, bare_plainly, beside_plainly, changed_plainly,
                          companion, crew_with_a_still_span, crews_over_fields, drawn_word,
                          is_still_plainly, low_by_the_words, over_a_field, some_crews,
                          still_spans_plainly, tight_plainly, turned_plainly, unit_rows,
                          with_contrary)


def turned_crew(crew):
    p, size, tables = crew
    return p, size, [turned_plainly(table) for table in tables]


def noughts(size):
    return [[0] * size for _ in range(size)]


class Tight(unittest.TestCase):
    def told(self, crew, tight):
        """That both functions tell what is told, and that a form is one of such a span."""
        self.assertIs(is_tight(crew), tight, crew)
        form = still_span(crew)
        if tight:
            self.assertIsNone(form, crew)
            return
        self.assertIs(type(form), list)
        self.assertTrue(all(type(row) is list and len(row) == crew[1] for row in form), crew)
        self.assertTrue(1 <= len(form) < crew[1], (crew, form))
        self.assertTrue(low_by_the_words(form), (crew, form))
        self.assertTrue(is_still_plainly(crew, form), (crew, form))

    def let_by(self, crew, tight):
        """That a paper of the kind is told, of the crew and of it turned, and let by."""
        for asked in (crew, turned_crew(crew)):
            told = paper(asked)
            self.assertIs(type(told), tuple)
            self.assertEqual((told[0], len(told)), ("tight", 5) if tight else ("still", 2), asked)
            self.assertIsNone(look(asked, told), (asked, told))
            if tight:
                self.assertEqual(len(worths(asked, told[1])), len(told[1]))


class Spans(Tight):
    def test_all_crews_of_one_small_table(self):
        for p, size in ((2, 1), (3, 1), (2, 2), (3, 2), (2, 3)):
            for table in all_tables(p, size, size):
                crew = (p, size, [table])
                self.told(crew, tight_plainly(crew))

    def test_all_crews_of_two_small_tables(self):
        for one in all_tables(2, 2, 2):
            for other in all_tables(2, 2, 2):
                crew = (2, 2, [one, other])
                self.told(crew, len(still_spans_plainly(crew)) == 2)

    def test_crews_of_each_size(self):
        for crew in some_crews(61):
            self.told(crew, tight_plainly(crew))

    def test_crews_over_fields(self):
        for many in (1, 2):
            for _, _, crew in crews_over_fields(62 + many, many):
                self.told(crew, tight_plainly(crew))

    def test_size_1(self):
        for p, _ in LARGEST:
            for rest in range(p):
                self.told((p, 1, [[[rest]]]), True)
                self.told((p, 1, [[[rest]], [[0]], [[1]], [[p - 1]]]), True)

    def test_noughts_and_plain_alone(self):
        for p, most in LARGEST:
            for size in range(2, most + 1):
                for table in (noughts(size), unit_rows(size)):
                    self.told((p, size, [table]), False)
                    self.told((p, size, [table] * 4), False)

    def test_blocks(self):
        draw = Draw(63)
        for p, most in LARGEST:
            for first in range(1, most):
                for last in range(1, most - first + 1):
                    one = (p, first, [draw.rows(p, first, first) for _ in range(2)])
                    other = (p, last, [draw.rows(p, last, last) for _ in range(2)])
                    crew = beside_plainly(one, other)
                    self.told(crew, False)
                    self.told(changed_plainly(crew, with_contrary(draw, p, first + last)), False)

    def test_a_single_still_span(self):
        draw = Draw(64)
        for p, most in LARGEST:
            for size in range(2, most + 1):
                for cut in range(1, size):
                    self.told(crew_with_a_still_span(draw, p, size, cut, 1 + draw.below(4)), False)

    def test_one_table_is_tight_just_with_a_bare_polynomial(self):
        for p, most in LARGEST:
            for size in range(1, min(most, 3) + 1):
                bare = bare_plainly(p, size)
                draw = Draw(65 + p)
                for _ in range(20):
                    poly = draw.row(p, size) + [1]
                    self.told((p, size, [companion(p, poly)]), tuple(poly) in bare)

    def test_a_crew_turned_is_tight_just_where_it_is(self):
        for crew in some_crews(66):
            self.assertIs(is_tight(turned_crew(crew)), is_tight(crew), crew)


class Papers(Tight):
    def test_crews_of_each_size(self):
        for seed in (71, 72):
            for crew in some_crews(seed):
                self.let_by(crew, is_tight(crew))

    def test_crews_over_fields(self):
        kinds = set()
        for many in (1, 2, 3, 4):
            for degree, times, crew in crews_over_fields(73 + many, many):
                tight = is_tight(crew)
                self.let_by(crew, tight)
                if tight:
                    kinds.add((crew[0], degree, times))
        # of every field and size some crew was tight
        self.assertEqual(len(kinds), sum(most // degree for _, most in LARGEST
                                         for degree in range(1, most + 1)))

    def test_crews_over_fields_changed(self):
        draw = Draw(79)
        for many in (2, 3):
            for _, _, crew in crews_over_fields(75 + many, many):
                other = changed_plainly(crew, with_contrary(draw, crew[0], crew[1]))
                self.let_by(other, is_tight(crew))

    def test_all_crews_of_one_small_table(self):
        for p, size in ((2, 1), (3, 1), (11, 1), (2, 2), (3, 2), (2, 3)):
            for table in all_tables(p, size, size):
                crew = (p, size, [table])
                self.let_by(crew, tight_plainly(crew))

    def test_size_1(self):
        for p, _ in LARGEST:
            for rest in range(p):
                self.let_by((p, 1, [[[rest]], [[0]]]), True)

    def test_noughts_and_plain_alone(self):
        for p, most in LARGEST:
            for size in range(2, most + 1):
                for table in (noughts(size), unit_rows(size)):
                    self.let_by((p, size, [table]), False)

    def test_four_tables_of_which_one_counts(self):
        for p, most in LARGEST:
            for size in range(1, most + 1):
                poly = min(poly for poly in bare_plainly(p, size) if len(poly) > size and poly[-1] == 1)
                rest = [noughts(size), unit_rows(size), noughts(size)]
                for at in range(4):
                    tables = rest[:at] + [companion(p, poly)] + rest[at:]
                    self.let_by((p, size, tables), True)

    def test_few_tight_words(self):
        # a shift and a table with a single 1: words come to many tables that vanish
        for p, most in LARGEST:
            for size in range(2, most + 1):
                shift = unit_rows(size)[1:] + [[0] * size]
                single = [[0] * size for _ in range(size - 1)] + [[1] + [0] * (size - 1)]
                self.let_by((p, size, [shift, single]), True)
                self.let_by((p, size, [single, shift, noughts(size)]), True)
                self.let_by((p, size, [shift]), False)


class JustOne(Tight):
    """Point 3: just one of the two papers can be let by."""

    def refused(self, crew, told):
        with self.assertRaises(NoPaper, msg=(crew, told)):
            look(crew, told)

    def test_no_form_of_a_tight_crew(self):
        draw = Draw(81)
        for _, times, crew in crews_over_fields(82, 3):
            if is_tight(crew):
                p, size, _ = crew
                for row in [draw.row(p, size - 1) + [1] for _ in range(5)] + unit_rows(size):
                    self.refused(crew, ("still", [row]))
                for at in range(1, size):
                    self.refused(crew, ("still", unit_rows(size)[:at]))

    def test_no_word_of_another_crew(self):
        # papers of tight crews are handed in with crews of the same size that are not
        draw = Draw(83)
        for p, most in LARGEST:
            for size in range(2, most + 1):
                poly = max(poly for poly in bare_plainly(p, 1) if poly[-1] == 1)
                tight = over_a_field(draw, p, poly, size, 3)
                while not is_tight(tight):
                    tight = over_a_field(draw, p, poly, size, 3)
                told = paper(tight)
                for cut in range(1, size):
                    loose = crew_with_a_still_span(draw, p, size, cut, 3)
                    self.refused(loose, told)
                    for word in (drawn_word(draw, loose, 9), [("plain",)], told[1]):
                        self.refused(loose, ("tight", word) + told[2:])


if __name__ == "__main__":
    unittest.main()

"""Points 12 and 13: crews, and the tables to which their words come."""

import unittest

from stillspans.crews import is_crew, turned_crew, worths
from stillspans.errors import NoWord, SpanError
from tests.helper import (LARGEST, NO_LISTS, NO_NUMBERS, NO_TUPLES, PRIMES, Draw, drawn_word,
                          some_crews, turned_plainly, unit_rows, with_one_else, worths_plainly,
                          wrong_step)

CREW = (3, 2, [[[1, 2], [0, 1]], [[0, 1], [1, 0]]])


def crew_of(p, size, many=1):
    return p, size, [unit_rows(size) for _ in range(many)]


class IsCrew(unittest.TestCase):
    def yes(self, thing):
        self.assertIs(is_crew(thing), True, thing)

    def no(self, thing):
        self.assertIs(is_crew(thing), False, thing)

    def test_crews(self):
        for crew in some_crews(2000):
            self.yes(crew)

    def test_sizes(self):
        for p in PRIMES:
            for size in range(1, 9):
                self.assertIs(is_crew(crew_of(p, size)), size <= 6 and p ** size <= 700, (p, size))
            for size in NO_NUMBERS + (0, 7, 700):
                self.no((p, size, [[[1]]]))
                self.no((p, size, [[]]))
                self.no((p, size, [unit_rows(2)]))
        for p, most in LARGEST:
            self.yes(crew_of(p, most))
            self.no(crew_of(p, most + 1))
        self.no((2, 0, [[]]))
        self.no((2, 0, [[[]]]))
        self.no((2, True, [[[1]]]))

    def test_primes(self):
        for p in range(-3, 40):
            for size in (1, 2):
                self.assertIs(is_crew(crew_of(p, size)), p in PRIMES)
        for wrong in NO_NUMBERS + ("2", [2], (2,)):
            self.no((wrong, 1, [[[0]]]))
            self.no((wrong, 2, [[[0, 0], [0, 0]]]))

    def test_numbers_of_tables(self):
        for p in PRIMES:
            for size in (1, 2):
                for many in range(8):
                    self.assertIs(is_crew(crew_of(p, size, many)), 1 <= many <= 4)

    def test_numbers(self):
        for crew in list(some_crews(2100))[::3]:
            p, size, tables = crew
            for k in range(len(tables)):
                for i in (0, size - 1):
                    for j in (0, size - 1):
                        for wrong in NO_NUMBERS + (p, p + 1, -p, 1 - p, str(p - 1)):
                            row = with_one_else(tables[k][i], j, wrong)
                            table = with_one_else(tables[k], i, row)
                            self.no((p, size, with_one_else(tables, k, table)))
                        row = with_one_else(tables[k][i], j, p - 1)
                        table = with_one_else(tables[k], i, row)
                        self.yes((p, size, with_one_else(tables, k, table)))

    def test_rows_and_columns(self):
        for p, size, tables in some_crews(2200):
            for k, table in enumerate(tables):
                for wrong in (table[:-1], table + [[0] * size], [], [[] for _ in table],
                              [row[:-1] for row in table], [row + [0] for row in table],
                              table[:-1] + [table[-1] + [0]], [table[0][:-1]] + table[1:],
                              table[:-1] + [[]], [table], table + [[]]):
                    self.no((p, size, with_one_else(tables, k, wrong)))

    def test_a_tuple_for_a_list(self):
        for p, size, tables in some_crews(2300):
            self.no((p, size, tuple(tables)))
            for k, table in enumerate(tables):
                self.no((p, size, with_one_else(tables, k, tuple(table))))
                for i, row in enumerate(table):
                    rows = with_one_else(table, i, tuple(row))
                    self.no((p, size, with_one_else(tables, k, rows)))

    def test_a_list_for_the_tuple_and_one_thing_more_or_less(self):
        for crew in some_crews(2400):
            self.no(list(crew))
            self.no(crew + (0,))
            self.no(crew + (crew[2],))
            self.no(crew[:2])
            self.no(crew[1:])
            self.no((crew,))
            self.no(crew[::-1])

    def test_other_kinds(self):
        for thing in NO_TUPLES + ((1,), (1, 2, 3), ("prime", "size", "tables"), (None,) * 3,
                                  ([], [], []), ((), (), ()), ((2,), (1,), ([[1]],))):
            self.no(thing)
        for thing in NO_LISTS + ([None], ["t"], [[None]], [["10", "01"]], [["1", "0"]], ["ab"],
                                 [[[[0]]]], [[[0, 0], 1]], [[[0, 0], "10"]], [[[0, 0], None]]):
            self.no((2, 2, thing))
            self.no((2, 1, thing))


class Turned(unittest.TestCase):
    def test_each_table_turned(self):
        for crew in some_crews(2500):
            p, size, tables = crew
            told = turned_crew(crew)
            self.assertIs(type(told), tuple)
            self.assertIs(is_crew(told), True)
            self.assertEqual(told, (p, size, [turned_plainly(table) for table in tables]))
            self.assertEqual(turned_crew(told), crew)

    def test_a_new_one(self):
        table = [[1, 2], [2, 4]]
        crew = (5, 2, [table, table])
        told = turned_crew(crew)
        self.assertEqual(told, crew)
        told[2][0][0][1] = 0
        self.assertEqual(told[2][1], [[1, 2], [2, 4]])
        self.assertEqual(crew, (5, 2, [[[1, 2], [2, 4]]] * 2))
        self.assertEqual(turned_crew(crew), crew)
        self.assertEqual(turned_crew((3, 2, [[[0, 1], [2, 0]]])), (3, 2, [[[0, 2], [1, 0]]]))


class Worths(unittest.TestCase):
    def told(self, crew, word):
        told = worths(crew, word)
        self.assertIs(type(told), list)
        self.assertEqual(len(told), len(word))
        self.assertEqual(told, worths_plainly(crew, word))
        for table in told:
            self.assertTrue(is_crew((crew[0], crew[1], [table])))
        return told

    def test_each_kind_of_step(self):
        word = [("plain",), ("table", 0), ("table", 1), ("times", 2, 1), ("sum", 1, 2),
                ("product", 1, 2), ("product", 2, 1), ("sum", 0, 0), ("product", 1, 1),
                ("times", 0, 5), ("times", 1, 5)]
        self.assertEqual(self.told(CREW, word), [
            [[1, 0], [0, 1]], [[1, 2], [0, 1]], [[0, 1], [1, 0]], [[2, 1], [0, 2]],
            [[1, 0], [1, 1]], [[2, 1], [1, 0]], [[0, 1], [1, 2]], [[2, 0], [0, 2]],
            [[1, 1], [0, 1]], [[0, 0], [0, 0]], [[2, 1], [1, 0]]])

    def test_words_of_one_step(self):
        for crew in some_crews(2600):
            self.assertEqual(self.told(crew, [("plain",)]), [unit_rows(crew[1])])
            for k, table in enumerate(crew[2]):
                self.assertEqual(self.told(crew, [("table", k)]), [table])

    def test_drawn_words(self):
        for crew in some_crews(2700):
            draw = Draw(crew[0])
            for many in (1, 2, 3, 5, 20):
                self.told(crew, drawn_word(draw, crew, many))

    def test_long_words(self):
        for crew in (CREW, (2, 6, [Draw(1).rows(2, 6, 6)]), (11, 2, [Draw(2).rows(11, 2, 2)] * 4),
                     (7, 1, [[[3]]])):
            for many in (200, 1999, 2000):
                word = drawn_word(Draw(many), crew, many)
                self.told(crew, word)
                self.told(crew, [("plain",)] * many)
                self.told(crew, [("table", 0)] + [("product", at, 0) for at in range(many - 1)])

    def test_i_and_j_the_same(self):
        for crew in some_crews(2800):
            for k in range(len(crew[2])):
                self.told(crew, [("table", k), ("sum", 0, 0), ("product", 0, 0),
                                 ("product", 1, 1), ("sum", 3, 3)])

    def test_every_rest(self):
        for p, most in LARGEST:
            crew = (p, most, [Draw(p).rows(p, most, most)])
            self.told(crew, [("table", 0)] + [("times", rest, 0) for rest in range(p)])

    def test_a_table_for_each_step(self):
        word = [("plain",), ("plain",), ("table", 0), ("table", 0), ("times", 1, 2), ("sum", 2, 0),
                ("product", 2, 0), ("product", 0, 0)]
        before = (3, 2, [[[1, 2], [0, 1]], [[0, 1], [1, 0]]])
        wanted = worths_plainly(CREW, word)
        for at in range(len(word)):
            told = worths(CREW, word)
            for row in told[at]:
                row[:] = [7, 7]
            told[at].append("spoilt")
            self.assertEqual(told[:at] + told[at + 1:], wanted[:at] + wanted[at + 1:])
            self.assertEqual(CREW, before)
            self.assertEqual(worths(CREW, word), wanted)


class Refused(unittest.TestCase):
    def refused(self, crew, word, at):
        with self.assertRaises(NoWord) as caught:
            worths(crew, word)
        self.assertIs(type(caught.exception), NoWord)
        self.assertIsInstance(caught.exception, SpanError)
        self.assertEqual(caught.exception.at, at)
        self.assertIs(type(caught.exception.at), int)
        self.assertEqual(wrong_step(crew, word), at)

    def wrong_steps(self, crew, own):
        """Things that are no step with that number, one fault each."""
        p, _, tables = crew
        yield from NO_TUPLES
        yield from ((1,), (None,), (("plain",),), ("",), ("table",), ("plane",), ("Plain",),
                    ("plain", 0), ("plain", None), ("plain", "plain"), ([],), (["plain"],),
                    ("table", 0, 0), ["table", 0], ("tables", 0), (0, "table"), ("plain", ()),
                    ("times",), ("sum",), ("product",), ("times", 0), ("sum", 0), ("product", 0))
        for wrong in NO_NUMBERS + (len(tables), len(tables) + 1, 4, "0"):
            yield "table", wrong
        for wrong in NO_NUMBERS + (own, own + 1, 2000, "0"):
            yield "times", 1, wrong
            for kind in ("sum", "product"):
                yield kind, 0, wrong
                yield kind, wrong, 0
                yield kind, wrong, wrong
        for wrong in NO_NUMBERS + (p, p + 1, -p, "0"):
            yield "times", wrong, 0
        for kind in ("times", "sum", "product"):
            yield [kind, 0, 0]
            yield kind, 0, 0, 0
            yield kind, 0, 0, None
            yield kind + "s", 0, 0
            yield kind.upper(), 0, 0
            yield kind, (0, 0)
            yield 0, 0, kind
        yield "difference", 0, 0

    def test_each_wrong_step_first_and_last_and_between(self):
        for crew in (CREW, (2, 1, [[[1]]]), (11, 2, [Draw(3).rows(11, 2, 2)] * 3)):
            for own in (0, 1, 4):
                for wrong in self.wrong_steps(crew, own):
                    word = drawn_word(Draw(own), crew, own) + [wrong]
                    self.refused(crew, word, own)
                    self.refused(crew, word + [("plain",)], own)

    def test_numbers_of_steps_that_are_not_ahead(self):
        for kind in ("sum", "product"):
            self.refused(CREW, [(kind, 0, 0)], 0)
            self.refused(CREW, [("plain",), (kind, 0, 1)], 1)
            self.refused(CREW, [("plain",), (kind, 1, 0)], 1)
            self.refused(CREW, [("plain",), (kind, 0, 2), ("plain",)], 1)
        self.refused(CREW, [("times", 1, 0)], 0)
        self.refused(CREW, [("plain",), ("times", 1, 1)], 1)
        self.refused(CREW, [("plain",), ("times", 1, 2), ("plain",)], 1)

    def test_the_first_of_two_wrong_steps(self):
        word = drawn_word(Draw(5), CREW, 12)
        for one in range(12):
            for other in range(one, 12):
                twice = with_one_else(with_one_else(word, one, None), other, ("plain", 0))
                self.refused(CREW, twice, one)
        self.refused(CREW, [("plain",), ("table", 2), "x"], 1)
        self.refused(CREW, [("plain",), "x", ("table", 2)], 1)

    def test_a_later_step_may_be_right_but_for_the_first(self):
        self.refused(CREW, [("table", 9), ("times", 1, 0), ("sum", 0, 1)], 0)

    def test_the_whole(self):
        for word in NO_TUPLES + ((("plain",),), (("table", 0), ("plain",)), [], {}, ("plain",),
                                 ("table", 0), "plain", "t0", 2000):
            if word != [("plain",)]:
                self.refused(CREW, word, 0)

    def test_the_last_of_two_thousand_steps(self):
        word = drawn_word(Draw(6), CREW, 2000)
        for at in (0, 1, 199, 200, 1000, 1998, 1999):
            for wrong in (0, list(word[at]), ("table", 2), ("sum", 0, at), ("times", 3, 0)):
                self.refused(CREW, with_one_else(word, at, wrong), at)
        self.refused(CREW, [0] * 2000, 0)
        self.refused(CREW, [0] * 200, 0)
        self.refused(CREW, tuple(word), 0)

    def test_more_than_two_thousand_steps(self):
        self.assertEqual(len(worths(CREW, [("plain",)] * 2000)), 2000)
        for many in (2001, 2002, 2500):
            self.refused(CREW, [("plain",)] * many, 0)
            self.refused(CREW, drawn_word(Draw(7), CREW, many), 0)
            self.refused(CREW, [("plain",)] * 5 + [None] * (many - 5), 0)

    def test_a_step_left_out_or_put_in(self):
        word = [("table", 0), ("table", 1), ("product", 0, 1), ("sum", 1, 2)]
        self.refused(CREW, word[1:], 1)
        self.refused(CREW, word[2:], 0)
        self.refused(CREW, [("times", 1, 0)] + word, 0)

    def test_tables_are_those_of_the_crew(self):
        for many in (1, 2, 3, 4):
            crew = crew_of(2, 2, many)
            for k in range(6):
                if k < many:
                    self.assertEqual(worths(crew, [("table", k)]), [unit_rows(2)])
                else:
                    self.refused(crew, [("table", k)], 0)


if __name__ == "__main__":
    unittest.main()

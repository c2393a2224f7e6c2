"""Point 17: the plain looker, and the first fault of a paper."""

import unittest
from itertools import product

from stillspans.errors import NoPaper, NoWord, SpanError
from stillspans.looker import look
from stillspans.polys import bare_parts
from stillspans.spans import low
from stillspans.tables import least
from tests.helper import (LARGEST, NO_LISTS, NO_NUMBERS, NO_TUPLES, PRIMES, Draw,
                          all_lists_of_rows, all_polys, all_rows, bare_plainly,
                          crew_with_a_still_span, drawn_word, led_plainly, led_to_nought,
                          low_by_the_words, mixtures, put_on_plainly, some_crews, spin_plainly,
                          turned_plainly, unit_rows, with_one_else, worths_plainly, wrong_step)

# the first table less the plain one leads just (0, 1) and its multiples to noughts, turned (1, 0)
TIGHT = (3, 2, [[[1, 1], [0, 1]], [[0, 1], [1, 0]]])
LET_BY = ("tight", [("table", 0)], [2, 1], [0, 1], [1, 0])

# its still spans other than nought and all are those of (1, 0, 0) and of that and (0, 1, 0)
LOOSE = (3, 3, [[[1, 0, 0], [1, 1, 0], [0, 2, 1]]])


def is_row(p, length, thing):
    return (type(thing) is list and len(thing) == length
            and all(type(n) is int and 0 <= n < p for n in thing))


def still_fault(crew, form):
    p, size, tables = crew
    if type(form) is not list or not 1 <= len(form) < size:
        return "form"
    if not all(is_row(p, size, row) for row in form) or not low_by_the_words(form):
        return "form"
    span = mixtures(p, form, size)
    led = [tuple(led_plainly(p, row, table)) for row in form for table in tables]
    return None if all(row in span for row in led) else "still"


def row_fault(crew, table, row):
    p, size, _ = crew
    if not is_row(p, size, row) or not any(row) or any(led_plainly(p, row, table)):
        return True
    return len(spin_plainly(crew, [row])) < p ** size


def tight_fault(crew, word, poly, row, other):
    p, size, tables = crew
    if wrong_step(crew, word) is not None:
        return "word"
    if type(poly) is not list or not 2 <= len(poly) <= size + 1 or poly[-1] != 1:
        return "poly"
    if not is_row(p, len(poly), poly) or tuple(poly) not in bare_plainly(p, size):
        return "poly"
    table = put_on_plainly(p, poly, worths_plainly(crew, word)[-1])
    if len(led_to_nought(p, table)) != p ** (len(poly) - 1):
        return "rows"
    if row_fault(crew, table, row):
        return "row"
    turned = (p, size, [turned_plainly(one) for one in tables])
    return "turned" if row_fault(turned, turned_plainly(table), other) else None


def first_fault(crew, paper):
    """The text of the first fault by the words of point 17, or None."""
    if type(paper) is not tuple or not paper or type(paper[0]) is not str:
        return "paper"
    if paper[0] == "still" and len(paper) == 2:
        return still_fault(crew, paper[1])
    if paper[0] == "tight" and len(paper) == 5:
        return tight_fault(crew, *paper[1:])
    return "paper"


def tight_papers(crew, draw):
    """Papers with "tight" for the crew, the most of them let by where it is tight."""
    p, size, tables = crew
    turned = (p, size, [turned_plainly(one) for one in tables])
    for _ in range(6):
        word = drawn_word(draw, crew, 1 + draw.below(9))
        last = worths_plainly(crew, word)[-1]
        for poly, _ in bare_parts(p, least(p, last)):
            table = put_on_plainly(p, poly, last)
            pair = []
            for of, which in ((crew, table), (turned, turned_plainly(table))):
                rows = led_to_nought(p, which)[1:]
                good = [row for row in rows[:20] if len(spin_plainly(of, [row])) == p ** size]
                pair.append((good or rows)[draw.below(len(good or rows))])
            yield "tight", word, poly, pair[0], pair[1]


class Look(unittest.TestCase):
    def looked(self, crew, paper, fault):
        """That the paper is let by, or refused with the text."""
        if fault is None:
            self.assertIsNone(look(crew, paper), (crew, paper))
        else:
            with self.assertRaises(NoPaper, msg=(crew, paper)) as caught:
                look(crew, paper)
            self.assertIs(type(caught.exception), NoPaper)
            self.assertIsInstance(caught.exception, SpanError)
            self.assertNotIsInstance(caught.exception, NoWord)
            self.assertIs(type(caught.exception.where), str)
            self.assertEqual(caught.exception.where, fault, (crew, paper))

    def as_told(self, crew, paper):
        fault = first_fault(crew, paper)
        self.looked(crew, paper, fault)
        return fault


class Kinds(Look):
    def test_other_kinds(self):
        for crew in (TIGHT, LOOSE, (2, 1, [[[1]]])):
            for thing in NO_TUPLES + (("still",), ("tight",), (["still"], [[1, 0, 0]]), (1, 2),
                                      (None, [[1, 0, 0]]), (True, [[1, 0, 0]]), ([], []),
                                      (("still",), [[1, 0, 0]]), ((), ()), (None,) * 5, ("",) * 5,
                                      ([], [], [], [], []), (1, [("plain",)], [1, 1], [1], [1])):
                self.looked(crew, thing, "paper")

    def test_other_texts(self):
        for text in ("", "Still", "still ", " still", "stil", "stills", "tight", "form", "loose"):
            self.looked(LOOSE, (text, [[1, 0, 0]]), "paper")
        for text in ("", "Tight", "tight ", " tight", "tigh", "tights", "still", "word"):
            self.looked(TIGHT, (text,) + LET_BY[1:], "paper")

    def test_one_thing_more_or_less(self):
        still = ("still", [[1, 0, 0]])
        self.looked(LOOSE, still, None)
        for paper in (still[:1], still + (None,), still + ([[1, 0, 0]],), still[::-1],
                      still[1:], still + still, still + (0, 0, 0)):
            self.looked(LOOSE, paper, "paper")
        self.looked(TIGHT, LET_BY, None)
        for paper in (LET_BY[:1], LET_BY[:2], LET_BY[:4], LET_BY + (None,), LET_BY + ([1, 0],),
                      LET_BY[1:], LET_BY[::-1], LET_BY + LET_BY, (LET_BY,)):
            self.looked(TIGHT, paper, "paper")

    def test_a_list_for_the_tuple(self):
        self.looked(LOOSE, ["still", [[1, 0, 0]]], "paper")
        self.looked(TIGHT, list(LET_BY), "paper")

    def test_later_faults_too(self):
        self.looked(LOOSE, ["still", [[0, 1, 0]]], "paper")
        self.looked(LOOSE, ("stil", [[0, 2, 0]]), "paper")
        self.looked(LOOSE, ("still", [], 0), "paper")
        self.looked(TIGHT, ["tight", [], [], [], []], "paper")
        self.looked(TIGHT, ("tight", [], [], []), "paper")
        self.looked(TIGHT, ("still",) + LET_BY[1:], "paper")


class Still(Look):
    def test_all_forms_of_small_crews(self):
        for p, size in ((2, 1), (2, 2), (2, 3), (3, 2), (11, 1)):
            forms = [rows for rows in all_lists_of_rows(p, size, size) if low_by_the_words(rows)]
            draw = Draw(4000 + p)
            crews = [(p, size, [draw.rows(p, size, size)]) for _ in range(6)]
            crews += [crew_with_a_still_span(draw, p, size, cut, many)
                      for cut in range(1, size) for many in (1, 2, 3)]
            for crew in crews:
                for form in forms:
                    self.as_told(crew, ("still", form))

    def test_let_by(self):
        draw = Draw(4100)
        for p, most in LARGEST:
            for size in range(2, most + 1):
                for cut in range(1, size):
                    for many in (1, 4):
                        crew = crew_with_a_still_span(draw, p, size, cut, many)
                        self.looked(crew, ("still", self.some_form(crew)), None)

    def some_form(self, crew):
        """The form of a spin that is neither nought nor all."""
        p, size, _ = crew
        for row in all_rows(p, size)[1:]:
            span = spin_plainly(crew, [row])
            if len(span) < p ** size:
                return low(p, [list(one) for one in span])
        self.fail("each row's spin is all")

    def test_form(self):
        for wrong in NO_LISTS + ([], [[]], [[], []], [[1, 0]], [[1, 0, 0, 0]], [[2, 0, 0]],
                                 [[0, 0, 0]], [[1, 0, 0], [0, 0, 0]], [[0, 0, 0], [1, 0, 0]],
                                 [[0, 1, 0], [1, 0, 0]], [[1, 1, 0], [0, 1, 0]], [[1, 0, 0]] * 2,
                                 [[1, 0, 0], [0, 1]], [[1, 0, 0], [1, 1, 0]], [[1, 0, 0], [0, 2, 0]],
                                 [(1, 0, 0)], [[1, 0, 0], (0, 1, 0)], [[1, 0, 0], None], ["100"],
                                 [["1", "0", "0"]], [[[1], [0], [0]]], [1, 0, 0], unit_rows(3),
                                 unit_rows(4), unit_rows(2), unit_rows(3) + [[0, 0, 1]]):
            self.looked(LOOSE, ("still", wrong), "form")
        for wrong in NO_NUMBERS + (3, 4, -3):
            self.looked(LOOSE, ("still", [[1, wrong, 0]]), "form")
            self.looked(LOOSE, ("still", [[1, 0, wrong]]), "form")
            self.looked(LOOSE, ("still", [[1, 0, 0], [0, 1, wrong]]), "form")
        self.looked(LOOSE, ("still", [[True, 0, 0]]), "form")

    def test_nought_and_all(self):
        for crew in some_crews(4200):
            self.looked(crew, ("still", []), "form")
            self.looked(crew, ("still", unit_rows(crew[1])), "form")

    def test_of_size_1_no_form_will_do(self):
        for p in PRIMES:
            for form in ([], [[]], [[1]], [[0]], [[p - 1]], [[1], [1]], [[1, 0]]):
                self.looked((p, 1, [[[p - 1]]]), ("still", form), "form")

    def test_still(self):
        for form in ([[0, 1, 0]], [[0, 0, 1]], [[1, 0, 0], [0, 0, 1]], [[0, 1, 0], [0, 0, 1]],
                     [[1, 1, 0]], [[1, 0, 2]], [[1, 2, 0], [0, 0, 1]]):
            self.looked(LOOSE, ("still", form), "still")
        self.looked(LOOSE, ("still", [[1, 0, 0]]), None)
        self.looked(LOOSE, ("still", [[1, 0, 0], [0, 1, 0]]), None)
        for form in ([[1, 0]], [[0, 1]], [[1, 1]], [[1, 2]]):
            self.looked(TIGHT, ("still", form), "still")

    def test_form_and_still_too(self):
        for form in ([[0, 2, 0]], [[0, 0, 1], [1, 0, 0]], [[0, 1, 0, 0]], [(0, 1, 0)],
                     [[0, 1, 0], [0, 1, 1]]):
            self.looked(LOOSE, ("still", form), "form")
        for form in ([[2, 0]], [[0, 2]], [[2, 2]]):
            self.looked(TIGHT, ("still", form), "form")


# for each part of LET_BY things by which it has a fault there and no earlier one
WRONG_WORDS = ([], [("table", 2)], [("times", 1, 0)], [["table", 0]], (("table", 0),), None, "t0", 0,
               [("table", True)], [("table", 0), ("sum", 0, 1)], [None, ("table", 0)], [0] * 2000,
               [("plain",)] * 2000 + [("table", 0)], [("table", 0), ("times", 3, 0)], ("table", 0),
               [("plain", 0), ("table", 0)])
WRONG_POLYS = ([], [1], [2], [0], [2, 1, 0], [1, 2], [2, 2], [0, 2], [1, 1, 1], [0, 0, 1],
               [1, 2, 0, 1], [0, 0, 0, 1], [5, 1], [-1, 1], [2, True], [None, 1], [2, 4], (2, 1),
               None, "21", 2, [[2], 1], [2, "1"], [10 ** 59, 1], [2, 1, 1, 1, 1, 1, 1])
WRONG_ROWS = ([0, 0], [1, 1], [1, 2], [2, 2], [0, 1, 0], [0], [1], [], (0, 1), (1, 0), [0, True],
              [True, 0], [0, -1], [0, 3], [3, 1], [1, 3], [0, 4], [None, 1], [1, None], "01", "10",
              None, 1, [[0, 1]], ["0", "1"], [0, 10 ** 59], [0, 1, 1], [0, 1, None])


class Tight(Look):
    def test_let_by(self):
        for row in ([0, 1], [0, 2]):
            for other in ([1, 0], [2, 0]):
                self.looked(TIGHT, LET_BY[:3] + (row, other), None)
        field = (2, 2, [[[0, 1], [1, 1]]])
        for row in ([0, 1], [1, 0], [1, 1]):
            for other in ([0, 1], [1, 0], [1, 1]):
                self.looked(field, ("tight", [("table", 0)], [1, 1, 1], row, other), None)
                self.looked(field, ("tight", [("plain",), ("table", 0), ("sum", 0, 1)], [1, 1, 1],
                                    row, other), None)

    def test_of_size_1(self):
        for p in PRIMES:
            for k in range(p):
                crew = (p, 1, [[[k]]])
                paper = ("tight", [("table", 0)], [-k % p, 1], [1], [p - 1])
                self.looked(crew, paper, None)
                self.looked(crew, paper[:2] + ([(1 - k) % p, 1],) + paper[3:], "rows")
                self.looked(crew, paper[:3] + ([0], [1]), "row")
                self.looked(crew, paper[:3] + ([1], [0]), "turned")
                self.looked(crew, paper[:2] + ([p - 1, 0, 1],) + paper[3:], "poly")

    def test_of_the_greatest_sizes(self):
        for p, poly in ((2, [1, 1, 0, 0, 0, 0, 1]), (3, [1, 2, 0, 0, 0, 1]), (5, [2, 0, 0, 0, 1]),
                        (7, [2, 0, 0, 1]), (11, [1, 0, 1])):
            size = len(poly) - 1
            table = unit_rows(size)[1:] + [[-n % p for n in poly[:-1]]]
            crew = (p, size, [table] * 4)
            units = unit_rows(size)
            self.assertEqual(self.as_told(
                crew, ("tight", [("table", 3)], poly, units[0], units[-1])), None)

    def test_the_last_step_tells(self):
        steps = [("table", 1), ("plain",), ("product", 0, 0), ("table", 0)]
        self.looked(TIGHT, with_one_else(LET_BY, 1, steps), None)
        # the second table less the plain one leads (1, 1) to noughts, not (0, 1)
        self.looked(TIGHT, with_one_else(LET_BY, 1, steps[::-1]), "row")
        long = [("table", 1)] * 1999 + [("table", 0)]
        self.looked(TIGHT, with_one_else(LET_BY, 1, long), None)
        self.looked(TIGHT, with_one_else(LET_BY, 1, [("plain",)] + long), "word")

    def test_word(self):
        for word in WRONG_WORDS:
            self.looked(TIGHT, with_one_else(LET_BY, 1, word), "word")

    def test_poly(self):
        for poly in WRONG_POLYS:
            self.looked(TIGHT, with_one_else(LET_BY, 2, poly), "poly")

    def test_degrees_up_to_the_size(self):
        for p, most in LARGEST:
            for size in range(1, most):
                crew = (p, size, [unit_rows(size)])
                for poly in sorted(bare_plainly(p, size + 1)):
                    if poly[-1] == 1 and len(poly) >= size + 1:
                        paper = ("tight", [("plain",)], list(poly), [1] * size, [1] * size)
                        if len(poly) == size + 2:
                            self.looked(crew, paper, "poly")
                        else:
                            self.assertNotEqual(self.as_told(crew, paper), "poly")

    def test_rows(self):
        # the plain table less itself leads all rows to noughts, more of them than the degree
        self.looked(TIGHT, with_one_else(LET_BY, 1, [("plain",)]), "rows")
        self.looked(TIGHT, with_one_else(LET_BY, 1, [("table", 0), ("plain",)]), "rows")
        # none but noughts is led to noughts
        self.looked(TIGHT, with_one_else(LET_BY, 2, [1, 1]), "rows")
        self.looked(TIGHT, with_one_else(LET_BY, 2, [0, 1]), "rows")
        self.looked(TIGHT, with_one_else(LET_BY, 2, [1, 0, 1]), "rows")
        # one row and two of them where the degree is two and one
        table = [[0, 1, 0, 0], [1, 1, 0, 0], [0, 0, 1, 0], [0, 0, 0, 1]]
        ring = unit_rows(4)[1:] + unit_rows(4)[:1]
        crew = (2, 4, [table, ring])
        self.assertIsNone(self.as_told(crew, ("tight", [("table", 0)], [1, 1, 1], [1, 0, 0, 0],
                                              [1, 0, 0, 0])))
        self.assertEqual(self.as_told(crew, ("tight", [("table", 0)], [1, 1], [0, 0, 1, 0],
                                             [0, 0, 1, 0])), "rows")

    def test_row(self):
        for row in WRONG_ROWS + ([1, 0], [2, 0]):
            self.looked(TIGHT, with_one_else(LET_BY, 3, row), "row")

    def test_row_whose_spin_is_not_all(self):
        # the second table leads (0, 1) to its multiple; the crew turned leads (1, 0) so, too
        crew = (3, 2, [[[1, 1], [0, 1]], [[1, 2], [0, 2]]])
        self.looked(crew, LET_BY, "row")
        # by this one the spin of (1, 0) isn't all, that of (1, 1) by the crew turned is
        crew = (2, 2, [[[1, 0], [1, 1]], [[0, 0], [1, 1]]])
        self.looked(crew, ("tight", [("table", 1)], [0, 1], [1, 0], [1, 1]), "row")

    def test_turned(self):
        for other in WRONG_ROWS + ([0, 1], [0, 2]):
            self.looked(TIGHT, with_one_else(LET_BY, 4, other), "turned")

    def test_turned_row_whose_spin_is_not_all(self):
        # (1, 1) is led to noughts by the second table, (1, 0) by that turned;
        # the spin of the one is all, that of the other is just (1, 0) by the crew turned
        crew = (2, 2, [[[1, 1], [0, 1]], [[0, 1], [0, 1]]])
        paper = ("tight", [("table", 1)], [0, 1], [1, 1], [1, 0])
        self.assertEqual(len(spin_plainly(crew, [[1, 1]])), 4)
        self.looked(crew, paper, "turned")

    def test_a_fault_and_each_later_one_too(self):
        words = (LET_BY[1], [("plain",)], [("table", 2)], None)
        polys = (LET_BY[2], [1, 1], [1, 2], [1, 1, 1], [], None)
        rows = (LET_BY[3], [1, 0], [0, 0], (0, 1), None, [0, True])
        others = (LET_BY[4], [0, 1], [0, 0], (1, 0), None, [True, 0])
        for word, poly, row, other in product(words, polys, rows, others):
            wanted = None
            if other != [1, 0] or other[0] is True:
                wanted = "turned"
            if row != [0, 1] or row[1] is True:
                wanted = "row"
            if word == [("plain",)] or poly == [1, 1]:
                wanted = "rows"
            if poly not in ([2, 1], [1, 1]):
                wanted = "poly"
            if word in ([("table", 2)], None):
                wanted = "word"
            self.looked(TIGHT, ("tight", word, poly, row, other), wanted)

    def test_all_wrong_things_two_by_two(self):
        parts = ((1, "word", WRONG_WORDS), (2, "poly", WRONG_POLYS), (3, "row", WRONG_ROWS),
                 (4, "turned", WRONG_ROWS))
        for at, (place, text, wrong) in enumerate(parts):
            for later, _, others in parts[at + 1:]:
                for thing in wrong[::2]:
                    for other in others[::2]:
                        paper = with_one_else(with_one_else(LET_BY, place, thing), later, other)
                        self.looked(TIGHT, paper, text)


class AgainstThePlainOne(Look):
    def test_all_small_papers(self):
        words = ([("table", 0)], [("plain",), ("table", 0), ("sum", 0, 1)], [("plain",)])
        for numbers in product(range(2), repeat=4):
            crew = (2, 2, [[list(numbers[:2]), list(numbers[2:])], [[0, 1], [1, 1]]])
            for tables in (crew[2][:1], crew[2]):
                for word, poly in product(words, all_polys(2, 2)):
                    for row, other in product(all_rows(2, 2), repeat=2):
                        self.as_told((2, 2, tables), ("tight", word, poly, row, other))

    def test_drawn_papers_and_those_put_otherwise(self):
        found = {}
        for crew in some_crews(4300):
            p, size, _ = crew
            draw = Draw(4400 + 10 * p + size)
            for paper in list(tight_papers(crew, draw))[:8]:
                fault = self.as_told(crew, paper)
                found[fault] = found.get(fault, 0) + 1
                for _ in range(2):
                    place = 2 + draw.below(3)
                    thing = (draw.poly(p, 1 + draw.below(size)), draw.row(p, size),
                             draw.row(p, size))[place - 2]
                    fault = self.as_told(crew, with_one_else(paper, place, thing))
                    found[fault] = found.get(fault, 0) + 1
                word = drawn_word(draw, crew, 5)
                fault = self.as_told(crew, with_one_else(paper, 1, word))
                found[fault] = found.get(fault, 0) + 1
        for fault in (None, "poly", "rows", "row", "turned"):
            self.assertGreater(found.get(fault, 0), 20, found)

    def test_what_is_let_by_holds(self):
        draw = Draw(4500)
        for p, most in LARGEST:
            for size in range(2, most + 1):
                for cut in range(1, size):
                    crew = crew_with_a_still_span(draw, p, size, cut, 2)
                    for paper in list(tight_papers(crew, draw))[:4]:
                        self.assertIn(self.as_told(crew, paper), ("rows", "row", "turned"))


if __name__ == "__main__":
    unittest.main()

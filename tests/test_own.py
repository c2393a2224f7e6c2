"""Point 2: what is handed in stays, and what is told is the asker's own."""

import unittest
from copy import deepcopy

from stillspans import (along, closing, crews, looker, parting, polys, several, spans, spins,
                        tables, texts, tight, towers)
from stillspans.errors import (NoPair, NoPaper, NoPart, NoText, NotTight, NoTower, NoWord,
                               TooMuch)
from tests.helper import (LARGEST, PRIMES, Draw, bare_plainly, beside_plainly, changed_plainly,
                          companion, crew_with_a_still_span, drawn_word, lists_within, spoil,
                          unit_rows, with_contrary)


def spans_asked(p):
    """Calls of stillspans.spans, as tuples of a function and its arguments."""
    draw = Draw(800 + p)
    twice = draw.row(p, 5)
    whole = spans.low(p, [[0, 1], [1, 0]])
    for rows in ([], [[0, 0, 0]], [twice, twice], draw.rows(p, 3, 5), draw.rows(p, 40, 36)):
        length = len(rows[0]) if rows else 4
        form = spans.low(p, rows)
        other = spans.low(p, draw.rows(p, 2, length))
        row = draw.row(p, length)
        within = list(form[0]) if form else [0] * length
        yield spans.low, (p, rows)
        yield spans.low, (p, form)
        yield spans.is_low, (p, rows)
        yield spans.is_low, (p, form)
        for asked in (row, within, [0] * length):
            yield spans.has, (p, form, asked)
            yield spans.shares, (p, form, asked)
        for function in (spans.together, spans.crossing):
            for one, two in ((form, other), (other, form), (form, []), ([], form), (form, form)):
                yield function, (p, one, two)
        yield spans.across, (p, length, form)
    yield spans.across, (p, 2, whole)
    yield spans.together, (p, whole, whole)


def polys_asked(p):
    """Calls of stillspans.polys, as tuples of a function and its arguments."""
    draw = Draw(900 + p)
    some = [[], [1], [p - 1], [0, 1], [1, 1]] + [draw.poly(p, degree) for degree in (1, 2, 3)]
    for one in some:
        yield polys.is_poly, (p, one)
        yield polys.is_bare, (p, one)
        if one:
            yield polys.bare_parts, (p, one)
        for other in some:
            yield polys.poly_sum, (p, one, other)
            yield polys.poly_times, (p, one, other)
            yield polys.common, (p, one, other)
            if other:
                yield polys.parted, (p, one, other)
    power = [0, 0, 0, 1]
    yield polys.bare_parts, (p, power)
    yield polys.is_poly, (p, [p, None, "x", (1,), [1]])
    yield polys.is_poly, (p, ([1], [2]))


def tables_asked(p):
    """Calls of stillspans.tables, as tuples of a function and its arguments."""
    draw = Draw(1000 + p)
    row = draw.row(p, 3)
    for table in ([[0]], [[0, 0]] * 2, [row] * 3, unit_rows(3), draw.rows(p, 2, 2),
                  draw.rows(p, 2, 5), draw.rows(p, 5, 2), draw.rows(p, 6, 6)):
        rows, columns = len(table), len(table[0])
        row = draw.row(p, rows)
        yield tables.led, (p, row, table)
        yield tables.product, (p, table, draw.rows(p, columns, 3))
        yield tables.product, (p, unit_rows(rows), table)
        yield tables.table_sum, (p, table, table)
        yield tables.table_sum, (p, table, [[0] * columns for _ in range(rows)])
        for rest in (0, 1, p - 1):
            yield tables.multiple, (p, rest, table)
        yield tables.turned, (table,)
        yield tables.plain, (rows,)
        for function in (tables.rank, tables.image, tables.to_nought):
            yield function, (p, table)
        if rows == columns:
            yield tables.product, (p, table, table)
            yield tables.contrary, (p, table)
            yield tables.least, (p, table)
            for poly in ([], [1], [0, 1], draw.poly(p, 3)):
                yield tables.put_on, (p, poly, table)
            for one in (row, [0] * rows, table[0]):
                yield tables.least_of, (p, table, one)


def crews_asked(p):
    """Calls of stillspans.crews and stillspans.spins, as tuples likewise."""
    draw = Draw(1100 + p)
    size = dict(LARGEST)[p]
    table = draw.rows(p, size, size)
    for crew in ((p, size, [table, table]), (p, 1, [[[1]]]), (p, 2, [[[1, 1]] * 2] * 4),
                 crew_with_a_still_span(draw, p, size, 1, 3)):
        size = crew[1]
        yield crews.is_crew, (crew,)
        yield crews.is_crew, (list(crew),)
        yield crews.turned_crew, (crew,)
        twice = [("plain",), ("plain",), ("table", 0), ("table", 0), ("times", 1, 2),
                 ("times", 0, 2), ("sum", 2, 2), ("sum", 2, 5), ("product", 0, 0),
                 ("product", 0, 2), ("product", 2, 0)]
        for word in ([("plain",)], twice, drawn_word(draw, crew, 20)):
            yield crews.worths, (crew, word)
        row = draw.row(p, size - 1) + [1]
        for form in ([], unit_rows(size), spans.low(p, [row]), spins.spin(crew, [row])):
            yield spins.is_still, (crew, form)
            yield spins.spin, (crew, form)
        for rows in ([row], [row] * 6, [[0] * size] * 2, draw.rows(p, 2, size)):
            yield spins.spin, (crew, rows)
            yield spins.spun, (crew, rows[0])


def some_tight(p):
    """Tight crews by the prime: of size 1, and of the greatest size with unlike fields."""
    most = dict(LARGEST)[p]
    poly = max(poly for poly in bare_plainly(p, most) if len(poly) > most and poly[-1] == 1)
    shift = unit_rows(most)[1:] + [[0] * most]
    single = [[0] * most for _ in range(most - 1)] + [[1] + [0] * (most - 1)]
    return ((p, 1, [[[p - 1]], [[0]]]), (p, most, [companion(p, poly), unit_rows(most)]),
            (p, most, [shift, single]))


def some_loose(p):
    """Crews by the prime with still spans, two tables each; in the first one the same list twice."""
    draw = Draw(1200 + p)
    most = dict(LARGEST)[p]
    table = [[0] * most for _ in range(most)]
    row = unit_rows(2)[0]
    half = crew_with_a_still_span(draw, p, max(1, most // 2), most // 4, 2)
    return ((p, most, [table, table]), (p, 2, [[row, row], [row, row]]),
            crew_with_a_still_span(draw, p, most, 1, 2), beside_plainly(half, half))


def along_asked(p):
    """Calls of stillspans.tight, stillspans.along and stillspans.several, as tuples likewise."""
    draw = Draw(1300 + p)
    one_row = (p, 1, [[[1]], [[0]]])
    for crew in some_tight(p) + some_loose(p):
        size = crew[1]
        for function in (tight.still_span, tight.is_tight, tight.paper):
            yield function, (crew,)
        change = with_contrary(draw, p, size)
        for other in (crew, one_row, changed_plainly(crew, change)):
            for pair in ((crew, other), (other, crew)):
                yield along.base, pair
                for table in along.base(*pair)[:2] + [[], change, None]:
                    yield along.goes_along, pair + (table,)
        yield several.changed, (crew, change)
        yield several.changed, (crew, unit_rows(size))
        yield several.multiplied, (crew, one_row)
        yield several.multiplied, (one_row, crew)
        if size < dict(LARGEST)[p]:
            yield several.beside, (crew, one_row)
            yield several.beside, (one_row, crew)
            yield several.beside, (one_row, one_row)
    for crew in some_tight(p):
        yield along.field_degree, (crew,)
        for other in some_tight(p):
            yield along.alike_tight, (crew, other)


def towers_asked(p):
    """Calls of stillspans.towers, as tuples likewise."""
    for crew in some_tight(p) + some_loose(p):
        forms = towers.tower(crew)
        whole = unit_rows(crew[1])
        yield towers.tower, (crew,)
        yield towers.part, (crew, [], whole)
        yield towers.part, (crew, [], forms[0])
        if len(forms) > 1:
            yield towers.part, (crew, forms[0], whole)
            yield towers.part, (crew, forms[-2], forms[-1])
        for thing in (forms, forms[1:], forms + forms, [whole, whole], [], None, ("x", [whole])):
            yield towers.is_tower, (crew, thing)
        yield towers.pairing, (crew, forms, forms)
        yield towers.pairing, (crew, forms, towers.tower(crew))


def closings_asked(p):
    """Calls of stillspans.closing and stillspans.parting, as tuples likewise."""
    draw = Draw(1400 + p)
    for crew in some_tight(p) + some_loose(p):
        for function in (closing.closing, closing.vanishing, closing.vanishing_power, closing.bottom,
                         closing.parts_wholly, parting.parting, parting.falls_apart):
            yield function, (crew,)
        yield parting.alike, (crew, (p, 1, [[[1]], [[0]]]))
        yield parting.alike, (crew, changed_plainly(crew, with_contrary(draw, p, crew[1])))


def texts_asked(p):
    """Calls of stillspans.texts, as tuples likewise."""
    for crew in some_tight(p) + some_loose(p):
        yield texts.crew_text, (crew,)
        yield texts.read_crew, (texts.crew_text(crew),)
    for text in ("plain", "t0 t0 1*0 1*0 0+0 0+0 0.0 0.0", "plain plain t3 10*1"):
        yield texts.read_word, (text,)
        yield texts.word_text, (texts.read_word(text),)


# crews and papers that are let by
PAPERS = (((3, 2, [[[1, 1], [0, 1]], [[0, 1], [1, 0]]]),
           ("tight", [("table", 0)], [2, 1], [0, 1], [1, 0])),
          ((3, 2, [[[1, 1], [0, 1]]]), ("still", [[0, 1]])))

WRONG_WORDS = ([], [("plain",), ["plain"]], ["plain", [0]], ([("plain",)],), [0] * 2001)

WRONG_PAPERS = (["still", [[0, 1]]], ("still", [[0, 1]]), ("still", [[0, 2]]), ("still", [[], []]),
                ("tight", [["plain"]], [2, 1], [0, 1], [1, 0]),
                ("tight", [("plain",)], [2, 1], [0, 1], [1, 0]),
                ("tight", [("table", 0)], [1, 2], [0, 1], [1, 0]),
                ("tight", [("table", 0)], [2, 1], [1, 0], [1, 0]),
                ("tight", [("table", 0)], [2, 1], [0, 1], [0, 1]))


def refused():
    """Calls that are refused, as tuples of a function, its arguments and the refusal."""
    yield polys.parted, (3, [1, 1], []), NoPart
    yield polys.bare_parts, (3, []), NoPart
    for word in WRONG_WORDS:
        yield crews.worths, (PAPERS[0][0], word), NoWord
    for paper in WRONG_PAPERS:
        yield looker.look, (PAPERS[0][0], paper), NoPaper
    tight_one, loose, single = PAPERS[0][0], PAPERS[1][0], (3, 1, [[[2]]])
    rows = unit_rows(2)
    for function in (along.base, along.alike_tight, several.beside, several.multiplied):
        yield function, (tight_one, loose), NoPair
    yield along.goes_along, (tight_one, loose, rows), NoPair
    yield along.alike_tight, (loose, single), NotTight
    yield along.field_degree, (loose,), NotTight
    for table in ([[0, 0], [0, 0]], [[1]]):
        yield several.changed, (loose, table), NoPair
    large = (3, 5, [unit_rows(5)])
    yield several.beside, (large, single), TooMuch
    yield several.multiplied, (loose, large), TooMuch
    for lower, upper in ((rows, rows), (rows, []), ([], [[1, 0]]), ([[1, 0]], rows)):
        yield towers.part, (loose, lower, upper), NoTower
    for thing in ([], None, [rows], [[[1, 0]], rows], [[[0, 1]], rows, rows]):
        yield towers.pairing, (loose, [[[0, 1]], rows], thing), NoTower
        yield towers.pairing, (loose, thing, [[[0, 1]], rows]), NoTower
    yield parting.alike, (tight_one, loose), NoPair
    for text in ("", "plain ", "prime 3\nsize 1\ntable\n3", "prime 3\nsize 1\ntable\n1\n"):
        yield texts.read_crew, (text,), NoText
        yield texts.read_word, (text,), NoText


def parts_within(thing):
    """Each thing within a thing, itself too."""
    yield thing
    if isinstance(thing, (list, tuple)):
        for inner in thing:
            yield from parts_within(inner)


class Own(unittest.TestCase):
    def asked(self):
        for p in PRIMES:
            for some in (spans_asked, polys_asked, tables_asked, crews_asked, along_asked,
                         towers_asked, closings_asked, texts_asked):
                yield from some(p)
        for handed in PAPERS:
            yield looker.look, handed

    def test_what_is_handed_in_stays(self):
        for function, handed in self.asked():
            before = deepcopy(handed)
            function(*handed)
            self.assertEqual(handed, before, function.__name__)

    def test_what_is_told_is_new_throughout(self):
        for function, handed in self.asked():
            told = function(*handed)
            within = [id(one) for one in lists_within(told)]
            self.assertEqual(len(within), len(set(within)), function.__name__)
            known = [id(one) for one in lists_within(handed)]
            self.assertFalse([one for one in within if one in known], function.__name__)

    def test_changing_what_was_told_changes_no_later_answer(self):
        for function, handed in self.asked():
            told = function(*handed)
            wanted = deepcopy(told)
            spoil(told)
            self.assertEqual(function(*handed), wanted, function.__name__)

    def test_changing_what_was_handed_in_changes_nothing_told(self):
        for function, handed in self.asked():
            copied = deepcopy(handed)
            told = function(*copied)
            wanted = deepcopy(told)
            spoil(copied)
            self.assertEqual(told, wanted, function.__name__)
            self.assertEqual(function(*handed), wanted, function.__name__)

    def test_whole_numbers_are_no_truths(self):
        for function, handed in self.asked():
            told = function(*handed)
            if function.__name__.startswith(("is_", "has", "goes_", "falls_", "parts_")):
                self.assertIs(type(told), bool)
            elif told is not None:
                for one in parts_within(told):
                    self.assertIn(type(one), (int, str, list, tuple), function.__name__)

    def test_refusals_change_nothing(self):
        for function, handed, refusal in refused():
            before = deepcopy(handed)
            with self.assertRaises(refusal):
                function(*handed)
            self.assertEqual(handed, before, function.__name__)

    def test_what_is_handed_in_may_be_what_was_told(self):
        crew, paper = PAPERS[0]
        told = crews.turned_crew(crew)
        self.assertEqual(crews.turned_crew(told), crew)
        worths = crews.worths(told, paper[1])
        self.assertIsNone(looker.look(told, paper[:3] + (paper[4], paper[3])))
        row = tables.to_nought(3, tables.put_on(3, paper[2], worths[-1]))[0]
        self.assertEqual(spins.spin(told, [one for one, _ in spins.spun(told, row)]), unit_rows(2))


if __name__ == "__main__":
    unittest.main()

"""Points 22 to 24, and 3 of them: parts, towers, and pairings of two towers."""

import unittest
from itertools import permutations

from stillspans.along import goes_along
from stillspans.errors import NoTower, SpanError
from stillspans.spans import across, low
from stillspans.towers import is_tower, pairing, part, tower
from tests.helper import (LARGEST, NO_LISTS, NO_RESTS, Draw, added, beside_plainly,
                          changed_plainly, crew_with_a_still_span, crews_over_fields,
                          has_a_contrary, is_still_plainly, led_plainly, low_by_the_words, mixed,
                          mixtures, one_of_each_line, some_crews, spin_plainly,
                          still_spans_plainly, tight_plainly, turned_plainly, unit_rows,
                          with_contrary, with_one_else)


def lead(row):
    return [place for place, number in enumerate(row) if number][0]


def noughts(size):
    return [[0] * size for _ in range(size)]


def turned_crew(crew):
    p, size, tables = crew
    return p, size, [turned_plainly(table) for table in tables]


def form_of(crew, span):
    return low(crew[0], [list(row) for row in sorted(span)])


def tight_between(crew, lower, upper):
    """Whether each row of the upper span that is not in the lower one spins to all of it."""
    p, size, _ = crew
    within, below = mixtures(p, upper, size), mixtures(p, lower, size)
    return all(len(added(p, below, spin_plainly(crew, [row]))) == len(within)
               for row in one_of_each_line(p, size)
               if tuple(row) in within and tuple(row) not in below)


def tower_by_the_words(crew, thing):
    """Whether a list of low lists of rows is a tower, demand by demand of point 23."""
    p, size, _ = crew
    if not thing or len(thing[-1]) != size:
        return False
    for lower, upper in zip([[]] + thing, thing):
        if not is_still_plainly(crew, upper) or len(lower) >= len(upper):
            return False
        if not all(tuple(row) in mixtures(p, upper, size) for row in lower):
            return False
        if not tight_between(crew, lower, upper):
            return False
    return True


def many_kinds(seed):
    """Crews with towers of many kinds: with one part, alike ones, unlike ones."""
    draw = Draw(seed)
    yield from some_crews(seed)
    for _, _, crew in crews_over_fields(seed + 1, 2):
        p, size, _ = crew
        most = dict(LARGEST)[p]
        yield crew
        for times in range(2, most // size + 1):
            several = crew
            for _ in range(times - 1):
                several = beside_plainly(several, crew)
            yield changed_plainly(several, with_contrary(draw, p, several[1]))
        if size < most:
            other = (p, most - size, [draw.rows(p, most - size, most - size) for _ in range(2)])
            several = beside_plainly(crew, other)
            yield changed_plainly(several, with_contrary(draw, p, most))


class Towers(unittest.TestCase):
    def refused(self, function, *handed):
        with self.assertRaises(NoTower, msg=handed) as caught:
            function(*handed)
        self.assertIs(type(caught.exception), NoTower)
        self.assertIsInstance(caught.exception, SpanError)


class Part(Towers):
    def as_told(self, crew, lower, upper):
        """That the part has what point 22 says, number by number."""
        p, size, tables = crew
        told = part(crew, lower, upper)
        rows = [row for row in upper if lead(row) not in [lead(one) for one in lower]]
        self.assertIs(type(told), tuple)
        self.assertEqual((told[0], told[1], len(told[2])), (p, len(rows), len(tables)))
        self.assertEqual(len(rows), len(upper) - len(lower))
        below = mixtures(p, lower, size)
        for table, own in zip(tables, told[2]):
            self.assertEqual([len(row) for row in own], [len(rows)] * len(rows))
            for row, numbers in zip(rows, own):
                self.assertTrue(all(type(n) is int and 0 <= n < p for n in numbers))
                behind = led_plainly(p, row, table)
                mix = mixed(p, numbers, rows, size)
                self.assertIn(tuple((a - b) % p for a, b in zip(behind, mix)), below)

    def test_all_pairs_of_still_spans(self):
        draw = Draw(301)
        for p, size in ((2, 1), (2, 2), (2, 3), (2, 4), (3, 2), (3, 3), (5, 2), (11, 2)):
            for crew in (crew_with_a_still_span(draw, p, size, size // 2, 2),
                         crew_with_a_still_span(draw, p, size, 1 if size > 1 else 0, 1),
                         (p, size, [noughts(size)]), (p, size, [unit_rows(size)[1:] + unit_rows(size)[:1]])):
                spans = [(span, form_of(crew, span)) for span in still_spans_plainly(crew)]
                for lower, low_form in spans:
                    for upper, high_form in spans:
                        if lower < upper:
                            self.as_told(crew, low_form, high_form)
                        else:
                            self.refused(part, crew, low_form, high_form)

    def test_of_each_size(self):
        for crew in many_kinds(302):
            forms = [[]] + tower(crew)
            for at, lower in enumerate(forms):
                for upper in forms[at + 1:]:
                    self.as_told(crew, lower, upper)

    def test_nought_below_and_all_above_is_the_crew(self):
        for crew in some_crews(303):
            self.assertEqual(part(crew, [], unit_rows(crew[1])), crew)

    def test_a_form_twice_and_the_wrong_way_round(self):
        for crew in many_kinds(304):
            forms = [[]] + tower(crew)
            for at, upper in enumerate(forms):
                for lower in forms[:at + 1]:
                    self.refused(part, crew, upper, lower)

    def test_not_within(self):
        for p, most in LARGEST:
            for size in range(2, most + 1):
                crew = (p, size, [noughts(size), unit_rows(size)])
                rows = unit_rows(size)
                self.refused(part, crew, rows[:1], rows[1:])
                self.refused(part, crew, rows[:1], rows[1:2])
                self.refused(part, crew, rows[1:], [[1] * size])
                for at in range(1, size):
                    self.refused(part, crew, [[1] * size], rows[:at])

    def test_not_still(self):
        for p, most in LARGEST:
            for size in range(2, most + 1):
                # the spans of the first rows are still, those of the last ones aren't
                rows = unit_rows(size)
                crew = (p, size, [[[0] * size] + rows[:-1]])
                self.as_told(crew, rows[:1], rows)
                self.as_told(crew, [], rows[:1])
                for at in range(1, size):
                    self.refused(part, crew, rows[at:], rows)
                    self.refused(part, crew, [], rows[at:])


class Told(Towers):
    def test_small_crews(self):
        draw = Draw(311)
        for p, size in ((2, 1), (2, 2), (2, 3), (2, 4), (3, 2), (3, 3), (5, 2), (7, 2), (11, 2)):
            for many in (1, 2):
                for cut in range(size):
                    crew = crew_with_a_still_span(draw, p, size, cut, many)
                    self.assertTrue(tower_by_the_words(crew, tower(crew)), crew)

    def test_of_each_size(self):
        for at, crew in enumerate(many_kinds(312)):
            told = tower(crew)
            self.assertIs(type(told), list)
            for form in told:
                self.assertIs(type(form), list)
                self.assertTrue(low_by_the_words(form), crew)
                self.assertTrue(all(type(row) is list and len(row) == crew[1] for row in form))
            # the plain look is slow at large crews
            if crew[0] ** crew[1] <= 128 or at % 4 == 0:
                self.assertTrue(tower_by_the_words(crew, told), crew)
            self.assertIs(is_tower(crew, told), True, crew)

    def test_noughts_and_plain_alone(self):
        for p, most in LARGEST:
            for size in range(1, most + 1):
                for table in (noughts(size), unit_rows(size)):
                    told = tower((p, size, [table] * 2))
                    self.assertEqual([len(form) for form in told], list(range(1, size + 1)))

    def test_of_a_tight_crew_all_alone(self):
        seen = 0
        for _, _, crew in crews_over_fields(313, 2):
            if tight_plainly(crew):
                self.assertEqual(tower(crew), [unit_rows(crew[1])])
                seen += 1
        self.assertGreater(seen, 20)

    def test_across_makes_a_tower_of_the_crew_turned(self):
        for crew in many_kinds(314):
            p, size, _ = crew
            told = tower(crew)
            turned = turned_crew(crew)
            other = [across(p, size, form) for form in reversed(told[:-1])] + [unit_rows(size)]
            if p ** size <= 128:
                self.assertTrue(tower_by_the_words(turned, other), crew)
            self.assertIs(is_tower(turned, other), True, crew)
            self.assertEqual(len(tower(turned)), len(told))


def all_towers(crew):
    """All towers of a small crew, as lists of forms, by its still spans."""
    spans = still_spans_plainly(crew)
    nought = min(spans, key=len)
    open_ones, done = [[nought]], []
    while open_ones:
        chain = open_ones.pop()
        above = [span for span in spans if chain[-1] < span]
        nearest = [span for span in above if not any(chain[-1] < one < span for one in above)]
        open_ones.extend(chain + [span] for span in nearest)
        if not above:
            done.append([form_of(crew, span) for span in chain[1:]])
    return done


def small_crews(seed):
    draw = Draw(seed)
    for p, size in ((2, 1), (2, 2), (2, 3), (3, 2), (5, 2)):
        yield p, size, [noughts(size)]
        yield p, size, [unit_rows(size), noughts(size)]
        yield p, size, [unit_rows(size)[1:] + unit_rows(size)[:1]]
        for cut in range(size):
            for many in (1, 2):
                yield crew_with_a_still_span(draw, p, size, cut, many)
    yield crew_with_a_still_span(draw, 2, 4, 2, 1)
    yield crew_with_a_still_span(draw, 3, 3, 1, 1)


class Is(Towers):
    def test_all_chains_of_still_spans_of_small_crews(self):
        for crew in small_crews(321):
            towers = all_towers(crew)
            for forms in towers:
                self.assertIs(is_tower(crew, forms), True, (crew, forms))
                for at in range(len(forms)):
                    self.assertIs(is_tower(crew, forms[:at] + forms[at + 1:]), False)
            self.assertIn(tower(crew), towers)

    def spoilt(self, forms, size):
        """Lists that are made of a tower and are none."""
        yield []
        yield tuple(forms)
        yield [[]] + forms
        yield [[]]
        yield forms + [[]]
        yield forms[::-1] + forms
        yield [forms]
        yield forms + [unit_rows(size)]
        yield forms + [None]
        for at, form in enumerate(forms):
            yield forms[:at] + forms[at + 1:]
            yield forms[:at] + [form] + forms[at:]
            yield with_one_else(forms, at, tuple(form))
            yield with_one_else(forms, at, [tuple(row) for row in form])
            yield with_one_else(forms, at, form + [[0] * size])
            yield with_one_else(forms, at, form + [form[0]])
            yield with_one_else(forms, at, [row + [0] for row in form])
            yield with_one_else(forms, at, [row[:-1] for row in form])
            yield with_one_else(forms, at, form[:-1])
            for thing in NO_LISTS:
                yield with_one_else(forms, at, thing)
                yield with_one_else(forms, at, [thing])
            for thing in NO_RESTS:
                for place in range(size):
                    yield with_one_else(forms, at, with_one_else(
                        form, 0, with_one_else(form[0], place, thing)))
        if len(forms) > 1:
            for order in list(permutations(range(len(forms))))[1:24]:
                yield [forms[at] for at in order]

    def test_spoilt_ones(self):
        for p, most in LARGEST:
            for crew in ((p, most, [noughts(most)]), (p, 1, [[[1]]]),
                         (p, most, [unit_rows(most)[1:] + unit_rows(most)[:1]])):
                forms = tower(crew)
                self.assertIs(is_tower(crew, forms), True)
                for thing in self.spoilt(forms, crew[1]):
                    self.assertIs(is_tower(crew, thing), False, (crew, thing))

    def test_no_low_lists(self):
        crew = (5, 2, [noughts(2)])
        self.assertIs(is_tower(crew, [[[1, 3]], unit_rows(2)]), True)
        for form in ([[2, 1]], [[0, 0]], [[1, 3], [1, 3]], [[1, 3], [0, 0]]):
            self.assertIs(is_tower(crew, [form, unit_rows(2)]), False, form)
        for whole in ([[0, 1], [1, 0]], [[1, 1], [0, 1]], [[1, 0], [0, 2]], [[1, 0]]):
            self.assertIs(is_tower(crew, [[[1, 3]], whole]), False, whole)

    def test_not_still(self):
        for p, most in LARGEST:
            for size in range(2, most + 1):
                rows = unit_rows(size)
                crew = (p, size, [[[0] * size] + rows[:-1]])
                self.assertIs(is_tower(crew, [rows[:at] for at in range(1, size + 1)]), True)
                self.assertIs(is_tower(crew, [rows[at:] for at in range(size - 1, -1, -1)]), False)
                self.assertIs(is_tower(crew, [rows[1:2]] + [rows[:at] for at in range(2, size + 1)]),
                              False)

    def test_drawn_forms(self):
        draw = Draw(322)
        seen = 0
        for p, size in ((2, 2), (2, 3), (3, 2), (5, 2)):
            for many in (1, 2):
                crew = crew_with_a_still_span(draw, p, size, 1, many)
                for _ in range(60):
                    form = low(p, draw.rows(p, 1 + draw.below(size), size))
                    above = low(p, form + draw.rows(p, 1, size))
                    for thing in ([form, unit_rows(size)], [form, above, unit_rows(size)], [form]):
                        wanted = tower_by_the_words(crew, thing)
                        self.assertIs(is_tower(crew, thing), wanted, (crew, thing))
                        seen += wanted
        self.assertGreater(seen, 10)

    def test_other_kinds(self):
        for crew in ((2, 1, [[[1]]]), (3, 3, [unit_rows(3)])):
            for thing in NO_LISTS:
                self.assertIs(is_tower(crew, thing), False, thing)
                self.assertIs(is_tower(crew, [thing]), False, thing)
                self.assertIs(is_tower(crew, [[thing]]), False, thing)
            for thing in NO_RESTS:
                self.assertIs(is_tower(crew, [thing]), False, thing)
                self.assertIs(is_tower(crew, [[[thing] * crew[1]]]), False, thing)
            self.assertIs(is_tower(crew, [[[[[[]]]]]]), False)
            self.assertIs(is_tower(crew, [[]] * 1400), False)
            self.assertIs(is_tower(crew, [unit_rows(crew[1])] * 100), False)
            self.assertIs(is_tower(crew, [[[1] + [0] * (crew[1] - 1)]] * 100), False)


def another_tower(crew, draw):
    """A tower of the crew, told of it changed and led back."""
    p, size, _ = crew
    change = with_contrary(draw, p, size)
    return [low(p, [led_plainly(p, row, change) for row in form])
            for form in tower(changed_plainly(crew, change))]


class Pairing(Towers):
    def as_told(self, crew, one, other):
        told = pairing(crew, one, other)
        self.assertIs(type(told), list)
        self.assertEqual(len(one), len(other))
        self.assertEqual([i for i, _, _ in told], list(range(len(one))))
        self.assertEqual(sorted(j for _, j, _ in told), list(range(len(one))))
        for pair in told:
            self.assertIs(type(pair), tuple)
            i, j, table = pair
            self.assertTrue(type(i) is int and type(j) is int)
            ahead = part(crew, ([[]] + one)[i], one[i])
            behind = part(crew, ([[]] + other)[j], other[j])
            self.assertIs(goes_along(ahead, behind, table), True, (crew, one, other, pair))
            self.assertTrue(has_a_contrary(crew[0], table), (crew, one, other, pair))
        return told

    def test_all_towers_of_small_crews(self):
        for crew in small_crews(331):
            towers = all_towers(crew)
            for one in towers[:6]:
                for other in towers[-6:]:
                    self.as_told(crew, one, other)

    def test_a_tower_and_itself(self):
        for crew in many_kinds(332):
            told = tower(crew)
            self.as_told(crew, told, told)

    def test_two_unlike_towers(self):
        draw = Draw(333)
        unlike = 0
        for crew in many_kinds(334):
            one, other = tower(crew), another_tower(crew, draw)
            self.as_told(crew, one, other)
            self.as_told(crew, other, one)
            unlike += one != other
        self.assertGreater(unlike, 50)

    def test_parts_in_another_order(self):
        draw = Draw(335)
        for p, most in LARGEST:
            one = (p, most - 1, [draw.rows(p, most - 1, most - 1) for _ in range(2)])
            for rest in range(p):
                other = (p, 1, [[[rest]], [[1]]])
                crew = beside_plainly(one, other)
                rows = unit_rows(most)
                self.as_told(crew, tower(crew), another_tower(crew, draw))
                inner = [low(p, [row + [0] for row in form]) for form in tower(one)]
                ahead = inner + [rows]
                behind = [rows[-1:]] + [low(p, form + rows[-1:]) for form in inner]
                told = self.as_told(crew, ahead, behind)
                self.assertEqual(len(told), len(ahead))
                self.as_told(crew, behind, ahead)

    def test_none_of_the_two_is_no_tower(self):
        for p, most in LARGEST:
            crew = (p, most, [noughts(most)])
            good = tower(crew)
            for thing in NO_LISTS + ([], [[]], [good[-1]], good[:-1], good + [good[-1]], [[]] + good,
                                     good[::-1], tuple(good), [tuple(form) for form in good], [good]):
                self.refused(pairing, crew, good, thing)
                self.refused(pairing, crew, thing, good)
                self.refused(pairing, crew, thing, thing)

    def test_towers_of_another_crew(self):
        for p, most in LARGEST:
            rows = unit_rows(most)
            crew = (p, most, [[[0] * most] + rows[:-1]])
            good = tower(crew)
            other = tower(turned_crew(crew))
            self.refused(pairing, crew, good, other)
            self.refused(pairing, crew, other, good)


if __name__ == "__main__":
    unittest.main()

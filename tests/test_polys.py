"""Points 7 and 8: polynomials, and their bare parts."""

import unittest

from stillspans.errors import NoPart, SpanError
from stillspans import errors
from stillspans.polys import (bare_parts, common, is_bare, is_poly, parted, poly_sum,
                              poly_times)
from tests.helper import (NO_LISTS, NO_RESTS, PRIMES, Draw, all_polys, bare_plainly,
                          times_plainly)

# by each prime: the greatest degree handed in, and one to which all are gone through two by two
DEGREES = ((2, 12, 4), (3, 8, 2), (5, 5, 1), (7, 4, 1), (11, 3, 1))

# by each prime: the degree to which the plain search for bare ones goes
SEARCHED = ((2, 8), (3, 5), (5, 3), (7, 3), (11, 2))


def pairs(p, most, small):
    polys = all_polys(p, small)
    draw = Draw(500 + p)
    found = [(one, other) for one in polys for other in polys]
    for one in range(most + 1):
        for other in range(most + 1):
            found.append((draw.poly(p, one), draw.poly(p, other)))
    return found


def sum_plainly(p, one, other):
    total = []
    for at in range(max(len(one), len(other))):
        total.append(((one[at] if at < len(one) else 0) + (other[at] if at < len(other) else 0)) % p)
    while total and total[-1] == 0:
        del total[-1]
    return total


def divides(p, one, other):
    return parted(p, other, one)[1] == [] if one else other == []


class IsPoly(unittest.TestCase):
    def test_polynomials(self):
        for p, most, small in DEGREES:
            self.assertIs(is_poly(p, []), True)
            for poly in all_polys(p, small):
                self.assertIs(is_poly(p, poly), True)
            for degree in (0, 1, most, most + 1, 24, 100):
                self.assertIs(is_poly(p, Draw(p).poly(p, degree)), True)

    def test_a_nought_behind(self):
        for p, most, small in DEGREES:
            self.assertIs(is_poly(p, [0]), False)
            for poly in all_polys(p, small):
                self.assertIs(is_poly(p, poly + [0]), False)
                self.assertIs(is_poly(p, [0] + poly), poly != [])

    def test_wrong_numbers(self):
        for p in PRIMES:
            for wrong in NO_RESTS + (p, p + 1, -p, 1 - p, str(p)):
                self.assertIs(is_poly(p, [wrong]), False)
                self.assertIs(is_poly(p, [wrong, 1]), False)
                self.assertIs(is_poly(p, [1, wrong]), False)
                self.assertIs(is_poly(p, [0, wrong, 1]), False)
            self.assertIs(is_poly(p, [p - 1]), True)
            self.assertIs(is_poly(p, [p - 1, 1]), True)

    def test_other_kinds(self):
        for p in PRIMES:
            for thing in NO_LISTS + ((1, 1), ([1], 1), "11", [[1, 1]], [[[[[[1]]]]]]):
                self.assertIs(is_poly(p, thing), False)


class SumsAndProducts(unittest.TestCase):
    def told(self, p, poly):
        self.assertIs(is_poly(p, poly), True)
        return poly

    def test_either_way_round(self):
        for p, most, small in DEGREES:
            for one, other in pairs(p, most, small):
                wanted = sum_plainly(p, one, other)
                self.assertEqual(self.told(p, poly_sum(p, one, other)), wanted)
                self.assertEqual(self.told(p, poly_sum(p, other, one)), wanted)
                wanted = times_plainly(p, one, other)
                self.assertEqual(self.told(p, poly_times(p, one, other)), wanted)
                self.assertEqual(self.told(p, poly_times(p, other, one)), wanted)

    def test_with_nought_and_one(self):
        for p, most, small in DEGREES:
            for poly in all_polys(p, small) + [Draw(p).poly(p, most)]:
                self.assertEqual(poly_sum(p, poly, []), poly)
                self.assertEqual(poly_sum(p, [], poly), poly)
                self.assertEqual(poly_times(p, poly, []), [])
                self.assertEqual(poly_times(p, [], poly), [])
                self.assertEqual(poly_times(p, poly, [1]), poly)
                self.assertEqual(poly_times(p, [1], poly), poly)
                self.assertEqual(poly_sum(p, poly, [-n % p for n in poly]), [])

    def test_written_out(self):
        self.assertEqual(poly_sum(2, [1, 1], [0, 1]), [1])
        self.assertEqual(poly_sum(3, [1, 2, 1], [0, 2, 2]), [1, 1])
        self.assertEqual(poly_times(2, [1, 1], [1, 1]), [1, 0, 1])
        self.assertEqual(poly_times(5, [4, 3], [2, 1, 1]), [3, 0, 2, 3])


class Parted(unittest.TestCase):
    def test_many_and_left(self):
        for p, most, small in DEGREES:
            for one, other in pairs(p, most, small):
                if other:
                    told = parted(p, one, other)
                    self.assertIs(type(told), tuple)
                    many, left = told
                    self.assertTrue(is_poly(p, many) and is_poly(p, left))
                    self.assertLess(len(left), len(other))
                    back = sum_plainly(p, times_plainly(p, other, many), left)
                    self.assertEqual(back, one)

    def test_ends(self):
        for p, most, small in DEGREES:
            for poly in all_polys(p, small)[1:] + [Draw(p).poly(p, most)]:
                self.assertEqual(parted(p, [], poly), ([], []))
                self.assertEqual(parted(p, poly, poly), ([1], []))
                self.assertEqual(parted(p, poly, [1]), (poly, []))
                self.assertEqual(parted(p, poly, [0] + poly), ([], poly))
                self.assertEqual(parted(p, [0] + poly, poly), ([0, 1], []))
        self.assertEqual(parted(3, [1, 0, 1], [1, 2]), ([2, 2], [2]))

    def test_by_nought(self):
        for p in PRIMES:
            for poly in ([], [1], [p - 1], [0, 1], [1, 1, 1]):
                with self.assertRaises(NoPart) as caught:
                    parted(p, poly, [])
                self.assertIs(type(caught.exception), NoPart)
                self.assertIsInstance(caught.exception, SpanError)
                self.assertIsInstance(caught.exception, ValueError)
                for name in ("NoWord", "NoPaper", "NoTower", "NoPair", "NotTight", "TooMuch",
                             "NoText", "NoRow", "NoName"):
                    self.assertNotIsInstance(caught.exception, getattr(errors, name))


class Common(unittest.TestCase):
    def test_all_small_ones(self):
        for p, most in ((2, 4), (3, 2), (5, 1), (7, 1)):
            polys = all_polys(p, most)
            for one in polys:
                for other in polys:
                    told = common(p, one, other)
                    both = [poly for poly in polys if poly and poly[-1] == 1
                            and divides(p, poly, one) and divides(p, poly, other)]
                    if not one and not other:
                        self.assertEqual(told, [])
                    else:
                        self.assertIn(told, both)
                        self.assertEqual(len(told), max(len(poly) for poly in both))

    def test_drawn_ones(self):
        for p, most, _ in DEGREES:
            draw = Draw(600 + p)
            for degree in range(most + 1):
                shared = draw.poly(p, degree)
                one = times_plainly(p, shared, draw.poly(p, draw.below(most - degree + 1)))
                other = times_plainly(p, shared, draw.poly(p, draw.below(most - degree + 1)))
                told = common(p, one, other)
                self.assertIs(is_poly(p, told), True)
                self.assertEqual(told[-1], 1)
                self.assertEqual(common(p, other, one), told)
                for poly in (one, other):
                    self.assertTrue(divides(p, told, poly))
                self.assertTrue(divides(p, shared, told))

    def test_with_nought_and_itself(self):
        for p, most, _ in DEGREES:
            self.assertEqual(common(p, [], []), [])
            for degree in range(most + 1):
                poly = Draw(degree).poly(p, degree)
                monic = [n for n in poly]
                while monic[-1] != 1:
                    monic = [(a + b) % p for a, b in zip(monic, poly)]
                self.assertEqual(common(p, poly, []), monic)
                self.assertEqual(common(p, [], poly), monic)
                self.assertEqual(common(p, poly, poly), monic)
                self.assertEqual(common(p, poly, [p - 1]), [1])
                self.assertEqual(common(p, [p - 1], poly), [1])


class Bare(unittest.TestCase):
    def product_of(self, p, parts):
        total = [1]
        for one, times in parts:
            for _ in range(times):
                total = times_plainly(p, total, one)
        return total

    def look_at_parts(self, p, poly):
        """What point 8 asks of the parts, but for whether they are bare."""
        parts = bare_parts(p, poly)
        self.assertIs(type(parts), list)
        for part in parts:
            self.assertIs(type(part), tuple)
            one, times = part
            self.assertIs(is_poly(p, one), True)
            self.assertGreater(len(one), 1)
            self.assertEqual(one[-1], 1)
            self.assertIs(type(times), int)
            self.assertGreater(times, 0)
        order = [(len(one), one) for one, _ in parts]
        for before, behind in zip(order, order[1:]):
            self.assertLess(before, behind)
        last = [poly[-1] * n % p for n in self.product_of(p, parts)]
        self.assertEqual(last, poly)
        return parts

    def test_all_small_ones_against_a_plain_search(self):
        for p, most in SEARCHED:
            bare = bare_plainly(p, most)
            for poly in all_polys(p, most):
                self.assertIs(is_bare(p, poly), tuple(poly) in bare, (p, poly))
                if poly:
                    for one, _ in self.look_at_parts(p, poly):
                        self.assertIn(tuple(one), bare)

    def test_how_many_are_bare(self):
        # by two to the twelfth: (4096 - 64 - 16 + 4) / 12, and so on by each prime
        for p, degree, many in ((2, 12, 335), (2, 11, 186), (3, 6, 116), (5, 4, 150), (7, 3, 112),
                                (11, 3, 440)):
            monic = [poly for poly in all_polys(p, degree)
                     if len(poly) == degree + 1 and poly[-1] == 1]
            self.assertEqual(len([poly for poly in monic if is_bare(p, poly)]), many)

    def test_greatest_degrees(self):
        for p, most, _ in DEGREES:
            draw = Draw(700 + p)
            for _ in range(20):
                poly = draw.poly(p, most)
                for one, _ in self.look_at_parts(p, poly):
                    self.assertIs(is_bare(p, one), True)

    def test_repeated_parts(self):
        for p, most, _ in DEGREES:
            for rest in range(p):
                one = [rest, 1]
                for times in range(1, most + 1):
                    poly = self.product_of(p, [(one, times)])
                    self.assertEqual(bare_parts(p, poly), [(one, times)])
                    self.assertIs(is_bare(p, poly), times == 1)
        self.assertEqual(bare_parts(2, self.product_of(2, [([1, 1, 1], 6)])), [([1, 1, 1], 6)])
        self.assertEqual(bare_parts(2, self.product_of(2, [([1, 0, 0, 1, 1], 3)])),
                         [([1, 0, 0, 1, 1], 3)])
        self.assertEqual(bare_parts(3, self.product_of(3, [([1, 0, 1], 4)])), [([1, 0, 1], 4)])

    def test_order(self):
        for p, wanted in (
                (2, [([0, 1], 2), ([1, 1], 1), ([1, 1, 1], 1), ([1, 0, 1, 1], 1), ([1, 1, 0, 1], 1)]),
                (3, [([0, 1], 1), ([2, 1], 2), ([1, 0, 1], 1), ([2, 1, 1], 1)]),
                (3, [([1, 0, 1], 1), ([2, 1, 1], 2), ([2, 2, 1], 1)]),
                (5, [([1, 1], 1), ([2, 1], 2), ([4, 1], 2)]),
                (7, [([0, 1], 1), ([6, 1], 1), ([1, 0, 1], 1)]),
                (11, [([1, 1], 1), ([3, 1], 1), ([10, 1], 1)])):
            for mixed in (wanted, wanted[::-1], wanted[1:] + wanted[:1]):
                self.assertEqual(bare_parts(p, self.product_of(p, mixed)), wanted)

    def test_a_last_rest_that_is_not_1(self):
        for p, most, _ in DEGREES[1:]:
            poly = Draw(p).poly(p, most)
            parts = bare_parts(p, poly)
            for times in range(1, p):
                self.assertEqual(bare_parts(p, [times * n % p for n in poly]), parts)
                self.assertIs(is_bare(p, [times, times]), True)
                self.assertEqual(bare_parts(p, [times, times]), [([1, 1], 1)])
                self.assertIs(is_bare(p, [0, 0, times]), False)

    def test_without_a_degree_or_of_degree_0(self):
        for p in PRIMES:
            self.assertIs(is_bare(p, []), False)
            with self.assertRaises(NoPart):
                bare_parts(p, [])
            for rest in range(1, p):
                self.assertIs(is_bare(p, [rest]), False)
                self.assertEqual(bare_parts(p, [rest]), [])
                self.assertIs(is_bare(p, [0, rest]), True)


if __name__ == "__main__":
    unittest.main()

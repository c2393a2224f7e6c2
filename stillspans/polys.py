"""Polynomials by a prime: lists of rests, the last one not 0; nought is []."""

from stillspans.errors import NoPart
from stillspans.rests import all_rows, inverse, is_rests, multiplied_by


def is_poly(p, thing):
    """Whether any thing is a polynomial by p, of any degree."""
    if not is_rests(p, thing):
        return False
    return not thing or thing[-1] != 0


def trimmed(rests):
    """A new list without the noughts behind."""
    end = len(rests)
    while end > 0 and rests[end - 1] == 0:
        end -= 1
    return rests[:end]


def poly_sum(p, one, other):
    """The sum of two polynomials."""
    longer, shorter = (one, other) if len(one) >= len(other) else (other, one)
    total = list(longer)
    for at, rest in enumerate(shorter):
        total[at] = (total[at] + rest) % p
    return trimmed(total)


def poly_times(p, one, other):
    """The product of two polynomials."""
    if not one or not other:
        return []
    total = [0] * (len(one) + len(other) - 1)
    for at, rest in enumerate(one):
        for behind, times in enumerate(other):
            total[at + behind] = (total[at + behind] + rest * times) % p
    return total


def parted(p, one, other):
    """The tuple (many, left): the one is the other times many, and left."""
    if not other:
        raise NoPart("a polynomial is parted by nought")
    back = inverse(p, other[-1])
    left = list(one)
    many = [0] * max(0, len(one) - len(other) + 1)
    for at in reversed(range(len(many))):
        times = left[at + len(other) - 1] * back % p
        many[at] = times
        for behind, rest in enumerate(other):
            left[at + behind] = (left[at + behind] - times * rest) % p
    return many, trimmed(left)


def with_one_behind(p, poly):
    """The multiple of the polynomial whose last rest is 1; of nought nought."""
    if not poly:
        return []
    return multiplied_by(p, inverse(p, poly[-1]), poly)


def common(p, one, other):
    """The polynomial of greatest degree that leaves nought of both, its last rest 1."""
    while other:
        one, other = other, parted(p, one, other)[1]
    return with_one_behind(p, one)


def all_of_degree(p, degree):
    """All polynomials of the degree whose last rest is 1, rising as lists."""
    return [head + [1] for head in all_rows(p, degree)]


def taken_out(p, poly, one):
    """What is left of the polynomial without the one, and how many times it had it."""
    times = 0
    many, left = parted(p, poly, one)
    while not left:
        poly = many
        times += 1
        many, left = parted(p, poly, one)
    return poly, times


def is_bare(p, poly):
    """Whether the degree is 1 or more and it is no product of two of lesser degrees."""
    if not poly:
        return False
    parts = bare_parts(p, poly)
    return len(parts) == 1 and parts[0][1] == 1


def bare_parts(p, poly):
    """The list of tuples (bare one, times), rising by degree and then as lists."""
    if not poly:
        raise NoPart("nought has no bare parts")
    parts = []
    left = with_one_behind(p, poly)
    degree = 1
    # what is left has no parts of lesser degrees than this one: so what
    # divides it is bare, and so is itself once two such ones are too many
    while len(left) - 1 >= 2 * degree:
        for one in all_of_degree(p, degree):
            left, times = taken_out(p, left, one)
            if times > 0:
                parts.append((one, times))
        degree += 1
    if len(left) > 1:
        parts.append((left, 1))
    return parts

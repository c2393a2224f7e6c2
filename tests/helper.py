"""What several tests share: plain searches, drawn rows and looks at lists."""

from itertools import product

PRIMES = (2, 3, 5, 7, 11)

# any thing that is no whole number, or none that is a rest by any prime
NO_RESTS = (-1, True, False, None, "", "1", [], [1], (), (1,), 10 ** 59, -10 ** 59, 12)

# any thing that is no list
NO_LISTS = (None, True, False, 0, 1, -1, 10 ** 59, "", "low", (), ((1,),), ([1],), ([1, 0], [0, 1]))


class Draw:
    """Numbers that look drawn, the same in each run."""

    def __init__(self, seed):
        self.state = seed

    def below(self, bound):
        self.state = (self.state * 6364136223846793005 + 1442695040888963407) % 2 ** 64
        return (self.state >> 33) % bound

    def row(self, p, length):
        return [self.below(p) for _ in range(length)]

    def rows(self, p, many, length):
        return [self.row(p, length) for _ in range(many)]

    def poly(self, p, degree):
        return self.row(p, degree) + [1 + self.below(p - 1)]


def all_rows(p, length):
    return [list(row) for row in product(range(p), repeat=length)]


def all_lists_of_rows(p, length, most):
    """All lists of at most so many rows, each list with lists of its own."""
    rows = all_rows(p, length)
    return [[list(row) for row in picked]
            for many in range(most + 1) for picked in product(rows, repeat=many)]


def mixtures(p, rows, length):
    """All rows of the span, as a set of tuples, by adding one row after the other."""
    found = {(0,) * length}
    for row in rows:
        found = {tuple((a + times * b) % p for a, b in zip(old, row))
                 for old in found for times in range(p)}
    return found


def mixed(p, shares, rows, length):
    total = [0] * length
    for share, row in zip(shares, rows):
        total = [(a + share * b) % p for a, b in zip(total, row)]
    return total


def low_by_the_words(rows):
    """The four demands of point 5, one after the other."""
    leads = []
    for row in rows:
        numbers = [place for place, number in enumerate(row) if number != 0]
        if not numbers or row[numbers[0]] != 1:
            return False
        leads.append(numbers[0])
    if leads != sorted(set(leads)):
        return False
    return all(row[place] == 0 for own, row in enumerate(rows)
               for at, place in enumerate(leads) if at != own)


def all_polys(p, most):
    """All polynomials of a degree of at most so much, nought too."""
    return [list(row) for length in range(most + 2) for row in product(range(p), repeat=length)
            if length == 0 or row[-1] != 0]


def times_plainly(p, one, other):
    """The product, power by power."""
    total = [sum(one[i] * other[k - i] for i in range(len(one)) if 0 <= k - i < len(other)) % p
             for k in range(len(one) + len(other))]
    while total and total[-1] == 0:
        total.pop()
    return total


def lists_within(thing):
    """Each list within a thing, itself too, as often as it stands there."""
    found = [thing] if isinstance(thing, list) else []
    if isinstance(thing, (list, tuple)):
        for inner in thing:
            found.extend(lists_within(inner))
    return found


def spoil(thing):
    """Change every list within a thing."""
    for one in lists_within(thing):
        one[:] = [None, "spoilt"]

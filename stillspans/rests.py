"""What the other files share: whole numbers, rests by a prime, rows and mixtures."""

PRIMES = (2, 3, 5, 7, 11)


def is_whole(thing):
    """Whether any thing is a whole number."""
    # True and False are ints for Python, but no whole numbers here
    return isinstance(thing, int) and not isinstance(thing, bool)


def is_below(bound, thing):
    """Whether any thing is a whole number from 0 on below the bound."""
    return is_whole(thing) and 0 <= thing < bound


def is_rests(p, thing):
    """Whether any thing is a list of rests by p."""
    if not isinstance(thing, list):
        return False
    return all([is_below(p, number) for number in thing])


def inverse(p, rest):
    """The rest that gives 1 with this one, which is not 0."""
    back = 1
    while back * rest % p != 1:
        back += 1
    return back


def multiplied_by(p, rest, rests):
    """A new list: each of the rests times one rest."""
    return [rest * number % p for number in rests]


def all_rows(p, length):
    """All rows of rests of the length, rising as lists."""
    rows = [[]]
    for _ in range(length):
        rows = [row + [rest] for row in rows for rest in range(p)]
    return rows


def mixture(p, shares, rows, length):
    """The sum of the rows' multiples by their shares, place by place."""
    return [sum([share * row[place] for share, row in zip(shares, rows)]) % p
            for place in range(length)]

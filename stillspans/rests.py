"""What rows and polynomials share: rests by a prime, and mixtures."""


def is_rests(p, thing):
    """Whether any thing is a list of rests by p."""
    if not isinstance(thing, list):
        return False
    for number in thing:
        # True and False are ints for Python, but no whole numbers here
        if not isinstance(number, int) or isinstance(number, bool):
            return False
        if number < 0 or number >= p:
            return False
    return True


def inverse(p, rest):
    """The rest that gives 1 with this one, which is not 0."""
    back = 1
    while back * rest % p != 1:
        back += 1
    return back


def multiplied_by(p, rest, rests):
    """A new list: each of the rests times one rest."""
    return [rest * number % p for number in rests]


def mixture(p, shares, rows, length):
    """The sum of the rows' multiples by their shares, place by place."""
    return [sum([share * row[place] for share, row in zip(shares, rows)]) % p
            for place in range(length)]

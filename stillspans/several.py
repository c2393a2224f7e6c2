"""Crews made of crews: changed by a table, side by side, and multiplied."""

from stillspans.crews import fits, is_table, refuse_unfit
from stillspans.errors import NoPair, TooMuch
from stillspans.tables import contrary, product, spread


def changed(crew, table):
    """The crew with the table ahead and its contrary behind each of its tables."""
    p, size, tables = crew
    back = contrary(p, table) if is_table(p, size, size, table) else None
    if back is None:
        raise NoPair("no table of the crew's size that has a contrary")
    return p, size, [product(p, product(p, table, one), back) for one in tables]


def refuse_too_much(p, size):
    """Refuse a size that is too large for crews by the prime."""
    if not fits(p, size):
        raise TooMuch("what comes is no crew for its size")


def beside(one, other):
    """The two crews side by side along the middle of each table."""
    refuse_unfit(one, other)
    p, first, tables = one
    last = other[1]
    refuse_too_much(p, first + last)
    return p, first + last, [[row + [0] * last for row in ahead] + [[0] * first + row for row in behind]
                             for ahead, behind in zip(tables, other[2])]


def multiplied(one, other):
    """The crew whose tables have each product of a number of the one's and one of the other's."""
    refuse_unfit(one, other)
    p, size, tables = one
    refuse_too_much(p, size * other[1])
    return p, size * other[1], [spread(p, ahead, behind) for ahead, behind in zip(tables, other[2])]

"""Crews, tuples (prime, size, tables), and the tables to which their words come."""

from stillspans.errors import NoPair, NoWord
from stillspans.rests import PRIMES, is_below, is_rests, is_whole
from stillspans.tables import multiple, plain, product, table_sum, turned

LARGEST = 6
MOST_ROWS = 700
MOST_TABLES = 4
MOST_STEPS = 2000


def fits(p, size):
    """Whether crews by the prime may have the size, a whole number."""
    if size < 1 or size > LARGEST:
        return False
    rows = 1
    for _ in range(size):
        rows = rows * p
    return rows <= MOST_ROWS


def is_table(p, rows, columns, thing):
    """Whether any thing is a table of rests with so many rows and columns."""
    if not isinstance(thing, list) or len(thing) != rows:
        return False
    return all([is_rests(p, row) and len(row) == columns for row in thing])


def is_crew(thing):
    """Whether any thing is a crew."""
    if not isinstance(thing, tuple) or len(thing) != 3:
        return False
    p, size, tables = thing
    if not is_whole(p) or p not in PRIMES or not is_whole(size) or not fits(p, size):
        return False
    if not isinstance(tables, list) or len(tables) < 1 or len(tables) > MOST_TABLES:
        return False
    return all([is_table(p, size, size, table) for table in tables])


def refuse_unfit(one, other):
    """Refuse two crews that have not one prime and as many tables."""
    if one[0] != other[0] or len(one[2]) != len(other[2]):
        raise NoPair("the crews have not one prime and as many tables")


def turned_crew(crew):
    """The crew with each table turned."""
    p, size, tables = crew
    return p, size, [turned(table) for table in tables]


def bounds_of(p, many, at, kind):
    """Below what each number of a step of the kind is, at its place; of no kind None."""
    # a step's number is ahead where it is below the step's own
    bounds = {"plain": (), "table": (many,), "times": (p, at), "sum": (at, at), "product": (at, at)}
    return bounds.get(kind)


def is_step(p, many, at, thing):
    """Whether any thing is a step, being its number at, of a word of a crew of so many tables."""
    # a list is no key: so none but texts are looked up
    if not isinstance(thing, tuple) or not thing or not isinstance(thing[0], str):
        return False
    bounds = bounds_of(p, many, at, thing[0])
    if bounds is None or len(thing) != len(bounds) + 1:
        return False
    return all([is_below(bound, number) for bound, number in zip(bounds, thing[1:])])


def worth(crew, ahead, step):
    """The table of a step, those of the steps ahead being told."""
    p, size, tables = crew
    if step[0] == "plain":
        return plain(size)
    if step[0] == "table":
        return [list(row) for row in tables[step[1]]]
    if step[0] == "times":
        return multiple(p, step[1], ahead[step[2]])
    one, other = ahead[step[1]], ahead[step[2]]
    if step[0] == "sum":
        return table_sum(p, one, other)
    return product(p, one, other)


def worths(crew, word):
    """The tables of the steps of the word, in order."""
    if not isinstance(word, list) or len(word) < 1 or len(word) > MOST_STEPS:
        raise NoWord(0)
    p, _, tables = crew
    told = []
    for at, step in enumerate(word):
        if not is_step(p, len(tables), at, step):
            raise NoWord(at)
        told.append(worth(crew, told, step))
    return told

"""Tables of rests by a prime: a table leads each row to the sum of its rows' multiples."""

from stillspans.polys import with_one_behind
from stillspans.rests import inverse, mixture, multiplied_by
from stillspans.spans import across, low


def led(p, row, table):
    """What the table, with as many rows as the row is long, leads the row to."""
    return mixture(p, row, table, len(table[0]))


def product(p, one, other):
    """The table that leads each row as the one does and then the other."""
    return [led(p, row, other) for row in one]


def table_sum(p, one, other):
    """The sum of two tables, place by place."""
    return [[(a + b) % p for a, b in zip(row, beside)] for row, beside in zip(one, other)]


def multiple(p, rest, table):
    """The multiple of the table by a rest, place by place."""
    return [multiplied_by(p, rest, row) for row in table]


def turned(table):
    """The table that has at i, j what this one has at j, i."""
    return [list(column) for column in zip(*table)]


def plain(size):
    """The table that leads each row of the size to itself."""
    return [[1 if place == at else 0 for place in range(size)] for at in range(size)]


def rank(p, table):
    """How many rows the image has."""
    return len(image(p, table))


def image(p, table):
    """The form of the table's rows, so of all that it leads rows to."""
    return low(p, table)


def to_nought(p, table):
    """The form of the rows, as long as the table has rows, that it leads to nought."""
    # what a row is led to has at each place the row's product with that column
    return across(p, len(table), image(p, turned(table)))


def contrary(p, table):
    """The table whose product with this one, on either side, is plain, or None."""
    size = len(table)
    # the steps that bring the table to its form bring the plain one to the contrary
    form = low(p, [row + beside for row, beside in zip(table, plain(size))])
    if [row[:size] for row in form] != plain(size):
        return None
    return [row[size:] for row in form]


def put_on(p, poly, table):
    """The sum of the rests' multiples of the table's powers, the power 0 being plain."""
    whole = plain(len(table))
    total = multiple(p, 0, whole)
    for rest in reversed(poly):
        total = table_sum(p, product(p, total, table), multiple(p, rest, whole))
    return total


def flat(table):
    """The table written as one row, its rows one behind the other."""
    return [number for row in table for number in row]


def least(p, table):
    """The polynomial of least degree, its last rest 1, that comes to noughts on the table."""
    power = plain(len(table))
    powers = [flat(power)]
    # once some powers mix to nought, just one mixture of them does, but for multiples,
    # and it has a multiple of the last one: the powers ahead of that didn't
    while not (found := to_nought(p, powers)):
        power = product(p, power, table)
        powers.append(flat(power))
    return with_one_behind(p, found[0])


def least_of(p, table, row):
    """The polynomial of least degree, its last rest 1, that leads the row to nought."""
    rows = [row]
    # as in least: just one mixture does, and it has a multiple of the last row
    while not (found := to_nought(p, rows)):
        rows.append(led(p, rows[-1], table))
    return with_one_behind(p, found[0])


def shaped(row, columns):
    """The table that is written as the row, its rows one behind the other."""
    return [row[at:at + columns] for at in range(0, len(row), columns)]


def shares_to(p, rows, row):
    """Multiples of the rows whose sum is the row, or None."""
    for found in to_nought(p, rows + [row]):
        if found[-1] != 0:
            return multiplied_by(p, inverse(p, -found[-1] % p), found[:-1])
    return None


def spread(p, one, other):
    """The table that has, for each number of the one in its place, that multiple of the other."""
    return [[a * b % p for a in row for b in beside] for row in one for beside in other]


def off(p, one, between, other):
    """The product of the one and the table between, less that of it and the other."""
    behind = multiple(p, p - 1, product(p, between, other))
    return table_sum(p, product(p, one, between), behind)


def all_along(p, ones, others):
    """The form of the tables, each written as a row, that go along from the ones to the others."""
    columns = len(others[0])
    form = plain(len(ones[0]) * columns)
    for one, other in zip(ones, others):
        left = [flat(off(p, one, shaped(row, columns), other)) for row in form]
        # those shares are low, as the form is: so is what they mix of it
        form = product(p, to_nought(p, left), form)
    return form

"""What several tests share: plain searches, drawn rows and looks at lists."""

from functools import lru_cache
from itertools import product

PRIMES = (2, 3, 5, 7, 11)

# by each prime the greatest size of its crews
LARGEST = ((2, 6), (3, 5), (5, 4), (7, 3), (11, 2))

# any thing that is no whole number, or none that is a rest by any prime
NO_RESTS = (-1, True, False, None, "", "1", [], [1], (), (1,), 10 ** 59, -10 ** 59, 12)

# any thing that is no whole number, or none from 0 to 12
NO_NUMBERS = (-1, True, False, None, "", "1", "plain", [], [1], (), (1,), 10 ** 59, -10 ** 59)

# any thing that is no tuple, or a tuple without things
NO_TUPLES = (None, True, False, 0, 1, 10 ** 59, "", "still", "tight", "plain", [], [1], [[1]],
             ["still", [[1, 0]]], ["plain"], [("plain",)], [2, 1, [[[1]]]], ())

# any thing that is no list
NO_LISTS = (None, True, False, 0, 1, -1, 10 ** 59, "", "low", (), ((1,),), ([1],), ([1, 0], [0, 1]))


class Draw:
    """Numbers that look drawn, the same in each run."""

    def __init__(self, seed):
        self.state = seed

    def below(self, bound):
        self.state = (self.state * 6364136223846793005 + 1442695040888963407) % 2 ** 64
        return (self.state >> 33) % bound

    def row(self, p, length):
        return [self.below(p) for _ in range(length)]

    def rows(self, p, many, length):
        return [self.row(p, length) for _ in range(many)]

    def poly(self, p, degree):
        return self.row(p, degree) + [1 + self.below(p - 1)]


def all_rows(p, length):
    return [list(row) for row in product(range(p), repeat=length)]


def all_lists_of_rows(p, length, most):
    """All lists of at most so many rows, each list with lists of its own."""
    rows = all_rows(p, length)
    return [[list(row) for row in picked]
            for many in range(most + 1) for picked in product(rows, repeat=many)]


def unit_rows(length):
    return [[1 if at == place else 0 for at in range(length)] for place in range(length)]


def widened(p, found, row):
    """All rows of a span and one more row together, as a set of tuples."""
    return {tuple((a + times * b) % p for a, b in zip(old, row))
            for old in found for times in range(p)}


def mixtures(p, rows, length):
    """All rows of the span, as a set of tuples, by adding one row after the other."""
    found = {(0,) * length}
    for row in rows:
        found = widened(p, found, row)
    return found


def mixed(p, shares, rows, length):
    total = [0] * length
    for share, row in zip(shares, rows):
        total = [(a + share * b) % p for a, b in zip(total, row)]
    return total


def low_by_the_words(rows):
    """The four demands of point 5, one after the other."""
    leads = []
    for row in rows:
        numbers = [place for place, number in enumerate(row) if number != 0]
        if not numbers or row[numbers[0]] != 1:
            return False
        leads.append(numbers[0])
    if leads != sorted(set(leads)):
        return False
    return all(row[place] == 0 for own, row in enumerate(rows)
               for at, place in enumerate(leads) if at != own)


def all_polys(p, most):
    """All polynomials of a degree of at most so much, nought too."""
    return [list(row) for length in range(most + 2) for row in product(range(p), repeat=length)
            if length == 0 or row[-1] != 0]


def times_plainly(p, one, other):
    """The product, power by power."""
    total = [sum(one[i] * other[k - i] for i in range(len(one)) if 0 <= k - i < len(other)) % p
             for k in range(len(one) + len(other))]
    while total and total[-1] == 0:
        total.pop()
    return total


@lru_cache(maxsize=None)
def bare_plainly(p, most):
    """All bare ones up to the degree, by striking out every product of two of lesser degrees."""
    polys = [poly for poly in all_polys(p, most) if len(poly) > 1]
    products = set()
    for one in polys:
        for other in polys:
            if one[-1] == 1 and len(one) <= len(other) and len(one) + len(other) - 2 <= most:
                products.add(tuple(times_plainly(p, one, other)))
    return {tuple(poly) for poly in polys} - products


def led_plainly(p, row, table):
    """The sum of the row's numbers' multiples of the table's rows."""
    total = [0] * len(table[0])
    for times, of in zip(row, table):
        total = [(a + times * b) % p for a, b in zip(total, of)]
    return total


def product_plainly(p, one, other):
    return [[sum(one[i][k] * other[k][j] for k in range(len(other))) % p
             for j in range(len(other[0]))] for i in range(len(one))]


def turned_plainly(table):
    return [[table[i][j] for i in range(len(table))] for j in range(len(table[0]))]


def put_on_plainly(p, poly, table):
    """The sum of the rests' multiples of the powers, power by power."""
    size = len(table)
    power = unit_rows(size)
    total = [[0] * size for _ in range(size)]
    for rest in poly:
        total = [[(a + rest * b) % p for a, b in zip(*rows)] for rows in zip(total, power)]
        power = product_plainly(p, power, table)
    return total


def led_to_nought(p, table):
    """All rows that the table leads to nought, as lists."""
    return [row for row in all_rows(p, len(table)) if not any(led_plainly(p, row, table))]


def with_contrary(draw, p, size):
    """A drawn table that leads no row but noughts to noughts."""
    table = draw.rows(p, size, size)
    while len(mixtures(p, table, size)) < p ** size:
        table = draw.rows(p, size, size)
    return table


def contrary_plainly(p, table):
    """The contrary of a table that has one: the power ahead of that which is plain."""
    whole = unit_rows(len(table))
    back = whole
    while product_plainly(p, back, table) != whole:
        back = product_plainly(p, back, table)
    return back


def crew_with_a_still_span(draw, p, size, cut, many):
    """A drawn crew with a still span whose form has so many rows as the size less cut."""
    change = with_contrary(draw, p, size)
    back = contrary_plainly(p, change)
    tables = []
    for _ in range(many):
        table = draw.rows(p, size, size)
        for row in table[cut:]:
            row[:cut] = [0] * cut
        tables.append(product_plainly(p, product_plainly(p, change, table), back))
    return p, size, tables


def some_crews(seed):
    """Crews of each prime and size and number of tables: drawn ones and others."""
    draw = Draw(seed)
    for p, most in LARGEST:
        for size in range(1, most + 1):
            for many in (1, 2, 3, 4):
                yield p, size, [draw.rows(p, size, size) for _ in range(many)]
            yield p, size, [[[0] * size for _ in range(size)]]
            yield p, size, [unit_rows(size), unit_rows(size)]
            # the rows with a single 1 in a ring
            yield p, size, [unit_rows(size)[1:] + unit_rows(size)[:1]]
            for cut in range(1, size):
                yield crew_with_a_still_span(draw, p, size, cut, 1 + draw.below(4))


def spin_plainly(crew, rows):
    """All rows of the least still span that has the rows, as a set of tuples."""
    p, size, tables = crew
    found = {(0,) * size}
    due = [list(row) for row in rows]
    while due:
        row = due.pop()
        if tuple(row) not in found:
            found = widened(p, found, row)
            due.extend(led_plainly(p, row, table) for table in tables)
    return found


def one_of_each_line(p, length):
    """Of each row and its multiples, noughts alone left out, the one with 1 as its first other number."""
    return [row for row in all_rows(p, length) if any(row) and [n for n in row if n][0] == 1]


def is_still_plainly(crew, form):
    p, size, tables = crew
    span = mixtures(p, form, size)
    return all(tuple(led_plainly(p, row, table)) in span for row in form for table in tables)


def tight_plainly(crew):
    """Whether each row but noughts spins to all."""
    p, size, _ = crew
    return all(len(spin_plainly(crew, [row])) == p ** size for row in one_of_each_line(p, size))


def added(p, span, other):
    """All sums of a row of the one span and a row of the other, as a set of tuples."""
    for row in other:
        if row not in span:
            span = widened(p, span, row)
    return frozenset(span)


def still_spans_plainly(crew):
    """All still spans, as sets of tuples: each is the sum of its rows' spins."""
    p, size, _ = crew
    found = {frozenset([(0,) * size])}
    for spun in {frozenset(spin_plainly(crew, [row])) for row in one_of_each_line(p, size)}:
        found |= {added(p, span, spun) for span in found}
    return found


def put_in(table, row, column, block):
    """Put the block into the table, its first number at that row and column."""
    for i, numbers in enumerate(block):
        table[row + i][column:column + len(numbers)] = numbers


def companion(p, poly):
    """The table of the poly's degree, the last rest 1, that it leads to noughts."""
    size = len(poly) - 1
    return unit_rows(size)[1:] + [[-rest % p for rest in poly[:-1]]]


def over_a_field(draw, p, poly, times, many):
    """A drawn crew of tables in blocks, each of them a polynomial put on one table."""
    own = companion(p, poly)
    degree = len(own)
    tables = []
    for _ in range(many):
        table = [[0] * (times * degree) for _ in range(times * degree)]
        for i in range(times):
            for j in range(times):
                put_in(table, i * degree, j * degree, put_on_plainly(p, draw.row(p, degree), own))
        tables.append(table)
    return p, times * degree, tables


def crews_over_fields(seed, many):
    """Drawn crews of each size over each field by each prime, mostly tight ones."""
    draw = Draw(seed)
    for p, most in LARGEST:
        for degree in range(1, most + 1):
            poly = max(poly for poly in bare_plainly(p, degree) if len(poly) > degree and poly[-1] == 1)
            for times in range(1, most // degree + 1):
                yield degree, times, over_a_field(draw, p, poly, times, many)


def beside_plainly(one, other):
    """The two crews' tables along the middle of new ones."""
    p, first, tables = one
    size = first + other[1]
    made = [[[0] * size for _ in range(size)] for _ in tables]
    for table, ahead, behind in zip(made, tables, other[2]):
        put_in(table, 0, 0, ahead)
        put_in(table, first, first, behind)
    return p, size, made


def changed_plainly(crew, table):
    p, size, tables = crew
    back = contrary_plainly(p, table)
    return p, size, [product_plainly(p, product_plainly(p, table, one), back) for one in tables]


def goes_along_plainly(one, other, table):
    p, _, tables = one
    return all(product_plainly(p, ahead, table) == product_plainly(p, table, behind)
               for ahead, behind in zip(tables, other[2]))


def has_a_contrary(p, table):
    size = len(table)
    return len(table[0]) == size and len(mixtures(p, table, size)) == p ** size


def all_tables(p, rows, columns):
    """All tables of rests with so many rows and columns."""
    return [[list(row) for row in picked] for picked in product(all_rows(p, columns), repeat=rows)]


def is_whole(thing):
    return type(thing) is int


def step_by_the_words(crew, own, step):
    """Whether it is a step with that number, kind by kind as point 13 tells them."""
    p, _, tables = crew
    if type(step) is not tuple:
        return False
    if len(step) == 1:
        return step[0] == "plain"
    if len(step) == 2:
        return step[0] == "table" and is_whole(step[1]) and step[1] in range(len(tables))
    if len(step) == 3 and is_whole(step[1]) and is_whole(step[2]) and step[2] in range(own):
        if step[0] == "times":
            return step[1] in range(p)
        return step[0] in ("sum", "product") and step[1] in range(own)
    return False


def wrong_step(crew, word):
    """The number that the refusal of the word tells, or None where it is one."""
    if type(word) is not list or len(word) not in range(1, 2001):
        return 0
    for own, step in enumerate(word):
        if not step_by_the_words(crew, own, step):
            return own
    return None


def worths_plainly(crew, word):
    p, size, tables = crew
    told = []
    for step in word:
        if step[0] == "plain":
            told.append(unit_rows(size))
        elif step[0] == "table":
            told.append(tables[step[1]])
        elif step[0] == "times":
            told.append([[step[1] * n % p for n in row] for row in told[step[2]]])
        elif step[0] == "sum":
            told.append([[(a + b) % p for a, b in zip(*rows)]
                         for rows in zip(told[step[1]], told[step[2]])])
        else:
            told.append(product_plainly(p, told[step[1]], told[step[2]]))
    return told


def drawn_step(draw, crew, own):
    p, _, tables = crew
    kind = draw.below(5 if own else 2)
    if kind == 0:
        return ("plain",)
    if kind == 1:
        return ("table", draw.below(len(tables)))
    if kind == 2:
        return ("times", draw.below(p), draw.below(own))
    return (("sum", "product")[kind - 3], draw.below(own), draw.below(own))


def drawn_word(draw, crew, many):
    return [drawn_step(draw, crew, own) for own in range(many)]


def with_one_else(things, at, thing):
    """A new list or tuple with one thing put otherwise."""
    return things[:at] + type(things)([thing]) + things[at + 1:]


def lists_within(thing):
    """Each list within a thing, itself too, as often as it stands there."""
    found = [thing] if isinstance(thing, list) else []
    if isinstance(thing, (list, tuple)):
        for inner in thing:
            found.extend(lists_within(inner))
    return found


def spoil(thing):
    """Change every list within a thing."""
    for one in lists_within(thing):
        one[:] = [None, "spoilt"]

"""The closing of a crew, what of it vanishes on every part, and the bottom."""

from stillspans.spans import across, crossing, low
from stillspans.tables import flat, led, plain, shaped, spread, to_nought, turned
from stillspans.tight import closing_ways
from stillspans.towers import between, tower


def closing_form(crew):
    """The form of the tables, each written as a row, to which the crew's words come."""
    return low(crew[0], [row for row, _ in closing_ways(crew)])


def closing(crew):
    """The base of all tables to which the crew's words come."""
    return [shaped(row, crew[1]) for row in closing_form(crew)]


def falling_form(crew):
    """The form of the tables, written as rows, that lead each form of a tower into the one ahead."""
    p, size, _ = crew
    forms = tower(crew)
    # the product of such a pair's rows with the table is what it leads the one to, times the other
    pairs = [flat(spread(p, turned([row]), [other]))
             for lower, upper in zip([[]] + forms, forms)
             for row in between(lower, upper) for other in across(p, size, lower)]
    return across(p, size * size, low(p, pairs))


def vanishing(crew):
    """The base of all tables of the closing that lead each form of a tower into the one ahead."""
    found = crossing(crew[0], closing_form(crew), falling_form(crew))
    return [shaped(row, crew[1]) for row in found]


def vanishing_power(crew):
    """The least number of vanishing tables, from 1 on, whose products are all noughts."""
    p, size, _ = crew
    found = vanishing(crew)
    rows = plain(size)
    times = 0
    while rows:
        rows = low(p, [led(p, row, table) for table in found for row in rows])
        times += 1
    return times


def bottom(crew):
    """The form of all tight still spans together."""
    found = vanishing(crew)
    # the rows that all of them lead to nought: so the tables stand side by side
    wide = [[number for table in found for number in table[at]] for at in range(crew[1])]
    return to_nought(crew[0], wide)


def parts_wholly(crew):
    """Whether the tight still spans together are all."""
    return len(bottom(crew)) == crew[1]

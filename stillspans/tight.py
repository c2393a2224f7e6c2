"""Tight crews: those without still spans but nought and all, and papers that show it."""

from stillspans.rests import all_rows, mixture
from stillspans.spans import together
from stillspans.spins import spin, spun
from stillspans.tables import (all_along, contrary, flat, least, led, plain, product, put_on,
                               shaped, shares_to, spread, to_nought, turned)


def lines(p, length):
    """Of each span of one row the row that has 1 as its lead."""
    return [[0] * at + [1] + tail for at in range(length) for tail in all_rows(p, length - at - 1)]


def still_span(crew):
    """The form of a still span other than nought and all, or None."""
    p, size, _ = crew
    # each still span has the spins of its rows
    for row in lines(p, size):
        form = spin(crew, [row])
        if len(form) < size:
            return form
    return None


def is_tight(crew):
    """Whether there are no still spans but nought and all."""
    return still_span(crew) is None


def paper(crew):
    """A paper of the crew that the looker lets by."""
    form = still_span(crew)
    if form is not None:
        return "still", form
    p, size, tables = crew
    field = [shaped(row, size) for row in all_along(p, tables, tables)]
    maker = maker_of(p, field)
    poly = least(p, maker)
    table = on_a_line(p, maker, len(field))
    # that leads just the line to noughts: of noughts the polynomial's first rest is left, not 0
    left = put_on(p, poly, table)
    return ("tight", word_to(crew, table), poly, to_nought(p, left)[0],
            to_nought(p, turned(left))[0])


def maker_of(p, field):
    """A table whose powers mix to all of the field's, other than noughts; they are its base."""
    size = len(field[0])
    for shares in lines(p, len(field)):
        table = shaped(mixture(p, shares, [flat(one) for one in field], size * size), size)
        if len(least(p, table)) > len(field):
            return table
    return None


def on_a_line(p, maker, degree):
    """A table that does as the maker on one row's line, leads others to noughts, and goes along with it."""
    size = len(maker)
    rows = []
    form = []
    for row in plain(size):
        line = [row]
        while len(line) < degree:
            line.append(led(p, line[-1], maker))
        # lines of two rows are the same or have but noughts in common
        wider = together(p, form, line)
        if len(wider) > len(form):
            form = wider
            rows.extend(line)
    back = contrary(p, rows)
    behind = [led(p, row, maker) for row in rows[:degree]]
    return product(p, back, behind + [[0] * size for _ in range(size - degree)])


def closing_ways(crew):
    """A base of the tables to which the words come: tuples (table as a row, way to it)."""
    p, size, tables = crew
    whole = plain(size)
    # a table behind another one leads each of its rows, one beside the other
    wide = [spread(p, whole, table) for table in tables]
    return spun((p, size * size, wide), flat(whole))


def word_to(crew, table):
    """A word of the crew that comes to the table, which is one of the closing and not of noughts."""
    p, _, tables = crew
    found = closing_ways(crew)
    word = [("plain",)] + [("table", number) for number in range(len(tables))]
    steps = {(): 0}
    for _, way in found[1:]:
        steps[tuple(way)] = len(word)
        word.append(("product", steps[tuple(way[:-1])], 1 + way[-1]))
    shares = shares_to(p, [row for row, _ in found], flat(table))
    total = None
    for share, step in zip(shares, list(steps.values())):
        if share != 0:
            word.append(("times", share, step))
            if total is not None:
                word.append(("sum", total, len(word) - 1))
            total = len(word) - 1
    return word

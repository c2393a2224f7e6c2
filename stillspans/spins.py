"""Spins: the least spans that all tables of a crew leave still."""

from stillspans.spans import has, low
from stillspans.tables import led


def is_still(crew, form):
    """Whether each table of the crew leads each row of the span into it."""
    p, _, tables = crew
    return all([has(p, form, led(p, row, table)) for table in tables for row in form])


def spin(crew, rows):
    """The form of the least still span that has the rows."""
    p, size, tables = crew
    form = low(p, rows)
    before = []
    # the one lies within the other: once as many rows come, it is the same span, and
    # once it is all no more come
    while len(before) < len(form) < size:
        before = form
        form = low(p, before + [led(p, row, table) for table in tables for row in before])
    return form


def spun(crew, row):
    """The list of tuples (row, way): a base of the row's spin, and how each came."""
    p, _, tables = crew
    form = low(p, [row])
    told = [(list(row), [])] if form else []
    at = 0
    while at < len(told):
        turn, way = told[at]
        for number, table in enumerate(tables):
            behind = led(p, turn, table)
            if not has(p, form, behind):
                told.append((behind, way + [number]))
                form = low(p, form + [behind])
        at += 1
    return told

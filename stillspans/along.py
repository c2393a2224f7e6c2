"""Tables that go along from one crew to another."""

from stillspans.crews import is_table, refuse_unfit
from stillspans.errors import NotTight
from stillspans.tables import all_along, contrary, product, shaped
from stillspans.tight import is_tight


def goes_along(one, other, thing):
    """Whether any thing is a table that goes along from the one crew to the other."""
    refuse_unfit(one, other)
    p, size, tables = one
    if not is_table(p, size, other[1], thing):
        return False
    return all([product(p, table, thing) == product(p, thing, behind)
                for table, behind in zip(tables, other[2])])


def base(one, other):
    """The tables that, each written as a row, are the form of all that go along."""
    refuse_unfit(one, other)
    return [shaped(row, other[1]) for row in all_along(one[0], one[2], other[2])]


def undone_between(one, other):
    """A table of the base from the one crew to the other that has a contrary, or None."""
    if one[1] != other[1]:
        return None
    for table in base(one, other):
        if contrary(one[0], table) is not None:
            return table
    return None


def refuse_loose(crew):
    """Refuse a crew that is not tight."""
    if not is_tight(crew):
        raise NotTight("the crew is not tight")


def alike_tight(one, other):
    """A table that goes along from one tight crew to another and has a contrary, or None."""
    refuse_unfit(one, other)
    refuse_loose(one)
    refuse_loose(other)
    return undone_between(one, other)


def field_degree(crew):
    """How many tables the base from the tight crew to itself has."""
    refuse_loose(crew)
    return len(base(crew, crew))

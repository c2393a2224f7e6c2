"""Spans of rows of rests by a prime, each told by its form: its low list."""

from stillspans.rests import inverse, is_rests, mixture, multiplied_by

LONGEST = 36


def lead(row):
    """The place of the first number that is not 0, or None."""
    for place, number in enumerate(row):
        if number != 0:
            return place
    return None


def cleared(p, rows, place, by):
    """The rows less so much of the row by, which has 1 at the place, that they have 0 there."""
    return [row if row[place] == 0 else
            [(number - row[place] * taken) % p for number, taken in zip(row, by)] for row in rows]


def low(p, rows):
    """The form of the span of the rows."""
    form = []
    left = [list(row) for row in rows]
    for place in range(len(rows[0]) if rows else 0):
        at = 0
        while at < len(left) and left[at][place] == 0:
            at += 1
        if at < len(left):
            row = left.pop(at)
            row = multiplied_by(p, inverse(p, row[place]), row)
            left = cleared(p, left, place, row)
            form = cleared(p, form, place, row)
            form.append(row)
    return form


def is_low(p, thing):
    """Whether any thing is a low list of rows of one length, from 1 to 36."""
    if not isinstance(thing, list):
        return False
    before = -1
    for row in thing:
        if not is_rests(p, row) or len(row) > LONGEST or len(row) != len(thing[0]):
            return False
        place = lead(row)
        if place is None or row[place] != 1 or place <= before:
            return False
        before = place
    return all(leads_alone(thing, row) for row in thing)


def leads_alone(rows, row):
    """Whether none of the rows but this one has a number at the place of its lead."""
    place = lead(row)
    return len([other for other in rows if other[place] != 0]) == 1


def shares(p, form, row):
    """The multiples of the form's rows whose sum is the row, or None."""
    # only one row of the form has a number at a lead, and that is 1:
    # so what the row has there is the only share that can do
    told = [row[lead(leading)] for leading in form]
    if mixture(p, told, form, len(row)) != row:
        return None
    return told


def has(p, form, row):
    """Whether the row is in the span of the form."""
    return shares(p, form, row) is not None


def together(p, one, other):
    """The form of all sums of a row of the one span and a row of the other."""
    return low(p, one + other)


def crossing(p, one, other):
    """The form of the rows that are in both spans."""
    if not one or not other:
        return []
    length = len(one[0])
    # a row is in both just where it lies across all that lies across either
    outside = together(p, across(p, length, one), across(p, length, other))
    return across(p, length, outside)


def across(p, length, form):
    """The form of all rows whose products with each row of the form come to 0."""
    leads = [lead(row) for row in form]
    found = []
    for place in range(length):
        if place not in leads:
            row = [0] * length
            row[place] = 1
            # each row of the form has one lead of its own, to make up for this 1
            for at, leading in zip(leads, form):
                row[at] = -leading[place] % p
            found.append(row)
    return low(p, found)

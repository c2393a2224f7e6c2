"""Towers of still spans that can't be made finer, and the parts between their forms."""

from stillspans.along import undone_between
from stillspans.errors import NoTower
from stillspans.rests import mixture
from stillspans.spans import has, is_low, lead, low
from stillspans.spins import is_still, spin
from stillspans.tables import led, plain
from stillspans.tight import is_tight, lines


def is_still_form(crew, thing):
    """Whether any thing is the form of a still span of the crew."""
    p, size, _ = crew
    if not is_low(p, thing) or (thing and len(thing[0]) != size):
        return False
    return is_still(crew, thing)


def is_within(p, lower, upper):
    """Whether the one span lies within the other and is not the same."""
    return len(lower) < len(upper) and all([has(p, upper, row) for row in lower])


def between(lower, upper):
    """The rows of the upper form whose leads are at no place of the lower one's."""
    leads = [lead(row) for row in lower]
    return [row for row in upper if lead(row) not in leads]


def shares_between(p, lower, rows, row):
    """How often each of the rows stands in a row of their span and the lower form's."""
    # none of the rows has a number at a lead of the lower form
    below = mixture(p, [row[lead(one)] for one in lower], lower, len(row))
    return [(row[lead(one)] - below[lead(one)]) % p for one in rows]


def part(crew, lower, upper):
    """The crew between two still spans, the lower one within the upper one."""
    p, _, tables = crew
    if not is_still_form(crew, lower) or not is_still_form(crew, upper):
        raise NoTower("a form is not that of a still span")
    if not is_within(p, lower, upper):
        raise NoTower("the lower span is not within the upper one, or is the same")
    rows = between(lower, upper)
    return p, len(rows), [[shares_between(p, lower, rows, led(p, row, table)) for row in rows]
                          for table in tables]


def least_spin(crew):
    """The form of a tight still span."""
    p, size, _ = crew
    return min([spin(crew, [row]) for row in lines(p, size)], key=len)


def tower(crew):
    """The forms of still spans, each tight on the one ahead, up to all."""
    p, size, _ = crew
    whole = plain(size)
    forms = [[]]
    while len(forms[-1]) < size:
        below = forms[-1]
        rows = between(below, whole)
        found = least_spin(part(crew, below, whole))
        forms.append(low(p, below + [mixture(p, told, rows, size) for told in found]))
    return forms[1:]


def parts(crew, forms):
    """The parts between the forms, each and the one ahead, of the first one nought."""
    return [part(crew, lower, upper) for lower, upper in zip([[]] + forms, forms)]


def is_tower(crew, thing):
    """Whether any thing is a tower of the crew."""
    p, size, _ = crew
    if not isinstance(thing, list) or not all([is_still_form(crew, form) for form in thing]):
        return False
    if not thing or len(thing[-1]) != size:
        return False
    if not all([is_within(p, lower, upper) for lower, upper in zip([[]] + thing, thing)]):
        return False
    return all([is_tight(one) for one in parts(crew, thing)])


def found_alike(one, others, taken):
    """The number of one of the others, none of those taken, and a table to it, or None."""
    for number, other in enumerate(others):
        if number not in taken:
            table = undone_between(one, other)
            if table is not None:
                return number, table
    return None


def paired(ones, others):
    """The tuples (i, j, table) that pair off the crews, or None where one finds none."""
    told = []
    for number, one in enumerate(ones):
        found = found_alike(one, others, [j for _, j, _ in told])
        if found is None:
            return None
        told.append((number,) + found)
    return told


def pairing(crew, one, other):
    """The tuples (i, j, table) that pair off the parts of two towers of the crew."""
    if not is_tower(crew, one) or not is_tower(crew, other):
        raise NoTower("one of the two is no tower of the crew")
    return paired(parts(crew, one), parts(crew, other))

"""Partings of a crew into ones that don't fall apart, and crews that are alike."""

from stillspans.along import base
from stillspans.crews import refuse_unfit
from stillspans.rests import mixture
from stillspans.tables import contrary, flat, image, plain, product, shaped, shares_to, to_nought
from stillspans.tight import maker_of, on_a_line
from stillspans.towers import paired, part, parts, tower


def halves(crew):
    """The forms of two still spans into which the crew falls apart, or None."""
    p, size, tables = crew
    own = base(crew, crew)
    whole = (p, size, own)
    every = parts(whole, tower(whole))
    first = every[0]
    field = base(first, first)
    unlike = [one for one in every if not base(first, one)]
    if len(field) == first[1] and not unlike:
        return None
    table = with_a_line(p, own, first, field, unlike)
    for _ in range(size - 1):
        table = product(p, table, table)
    return image(p, table), to_nought(p, table)


def with_a_line(p, own, first, field, unlike):
    """A mixture of the tables that is worth a line's table on the first part, nought on those unlike it."""
    # on parts that are unlike one another the mixtures come to any tables that go
    # along with what goes along there, each by itself
    rows = [flat(first[2][at]) + [number for one in unlike for number in flat(one[2][at])]
            for at in range(len(own))]
    wanted = flat(on_a_line(p, maker_of(p, field), len(field)))
    wanted = wanted + [0] * (len(rows[0]) - len(wanted))
    size = len(own[0])
    return shaped(mixture(p, shares_to(p, rows, wanted), [flat(one) for one in own], size * size), size)


def pieces(crew):
    """Forms of still spans that don't fall apart: each row is a sum of rows of theirs in one manner."""
    p, size, _ = crew
    split = halves(crew)
    if split is None:
        return [plain(size)]
    told = []
    for form in split:
        told.extend([product(p, inner, form) for inner in pieces(part(crew, [], form))])
    return told


def parting(crew):
    """Tables that go along from the crew to itself, each to a piece of it, their sum the plain one."""
    p = crew[0]
    forms = pieces(crew)
    back = contrary(p, [row for form in forms for row in form])
    told = []
    at = 0
    for form in forms:
        told.append(product(p, [row[at:at + len(form)] for row in back], form))
        at += len(form)
    return told


def falls_apart(crew):
    """Whether two still spans, neither of them nought, have only nought in common and are together all."""
    return halves(crew) is not None


def alike(one, other):
    """A table that goes along from the one crew to the other and has a contrary, or None."""
    refuse_unfit(one, other)
    if one[1] != other[1]:
        return None
    p = one[0]
    ahead, behind = pieces(one), pieces(other)
    told = paired([part(one, [], form) for form in ahead], [part(other, [], form) for form in behind])
    if told is None:
        return None
    back = contrary(p, [row for form in ahead for row in form])
    return product(p, back, [row for i, j, table in told for row in product(p, table, behind[j])])

"""The plain looker: lets a paper of a crew by, or names its first fault."""

from stillspans.crews import turned_crew, worths
from stillspans.errors import NoPaper, NoWord
from stillspans.polys import is_bare, is_poly
from stillspans.rests import is_rests
from stillspans.spans import is_low
from stillspans.spins import is_still, spin
from stillspans.tables import led, put_on, to_nought, turned


def look(crew, paper):
    """Nothing, where the paper is let by; any thing may be handed in as one."""
    if is_kind(paper, "still", 2):
        look_at_still(crew, paper[1])
    elif is_kind(paper, "tight", 5):
        look_at_tight(crew, paper)
    else:
        raise NoPaper("paper")


def is_kind(thing, text, length):
    """Whether any thing is a tuple of the length that begins with the text."""
    return isinstance(thing, tuple) and len(thing) == length and thing[0] == text


def look_at_still(crew, form):
    """Whether the form is that of a still span other than nought and all."""
    p, size, _ = crew
    if not is_low(p, form) or len(form) < 1 or len(form) >= size or len(form[0]) != size:
        raise NoPaper("form")
    if not is_still(crew, form):
        raise NoPaper("still")


def look_at_tight(crew, paper):
    """Whether the paper shows that there are no still spans but nought and all."""
    p, size, _ = crew
    _, word, poly, row, other = paper
    try:
        told = worths(crew, word)
    except NoWord:
        raise NoPaper("word") from None
    if not may_be_put_on(p, size, poly):
        raise NoPaper("poly")
    table = put_on(p, poly, told[-1])
    if len(to_nought(p, table)) != len(poly) - 1:
        raise NoPaper("rows")
    if not spins_to_all(crew, table, row):
        raise NoPaper("row")
    if not spins_to_all(turned_crew(crew), turned(table), other):
        raise NoPaper("turned")


def may_be_put_on(p, size, thing):
    """Whether any thing is a bare polynomial of at most that degree, its last rest 1."""
    if not is_poly(p, thing) or len(thing) < 2 or len(thing) - 1 > size:
        return False
    return thing[-1] == 1 and is_bare(p, thing)


def spins_to_all(crew, table, thing):
    """Whether any thing is a row of the crew that the table leads to nought and whose spin is all."""
    p, size, _ = crew
    if not is_rests(p, thing) or len(thing) != size or any(led(p, thing, table)):
        return False
    # noughts alone spin to nought, so they need no look of their own
    return len(spin(crew, [thing])) == size

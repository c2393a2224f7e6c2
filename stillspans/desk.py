"""A desk that keeps crews by names and answers texts."""

from stillspans.along import base
from stillspans.closing import closing, parts_wholly, vanishing, vanishing_power
from stillspans.crews import turned_crew
from stillspans.errors import NoName, NoPair, NoRow
from stillspans.parting import alike, falls_apart, parting
from stillspans.several import beside, changed, multiplied
from stillspans.tables import plain, rank
from stillspans.texts import crew_text, number_of, read_crew
from stillspans.tight import is_tight
from stillspans.towers import parts, tower

LETTERS = "abcdefghijklmnopqrstuvwxyz"
LONGEST_NAME = 8
MOST_FIGURES = 3

# what stands behind a row's first word: a name taken anew, names that stand, and numbers
ROWS = {
    "crew": ("new",),
    "turn": ("new", "name"),
    "beside": ("new", "name", "name"),
    "times": ("new", "name", "name"),
    "add": ("new", "name", "number", "number", "number"),
    "show": ("name",),
    "tight": ("name",),
    "wholly": ("name",),
    "apart": ("name",),
    "tower": ("name",),
    "parts": ("name",),
    "closing": ("name",),
    "along": ("name", "name"),
    "alike": ("name", "name"),
}


def is_name(word):
    """Whether a word may be a crew's name."""
    return 1 <= len(word) <= LONGEST_NAME and all([sign in LETTERS for sign in word])


def is_of_kind(kind, word):
    """Whether a word of a row is of the kind that is due at its place."""
    if kind == "number":
        return number_of(word, MOST_FIGURES) is not None
    return is_name(word)


def is_row(verb, words, is_followed):
    """Whether the desk knows such a row, with or without a line end behind it."""
    kinds = ROWS.get(verb, ())
    if len(kinds) != len(words) or not kinds or is_followed != (verb == "crew"):
        return False
    return all([is_of_kind(kind, word) for kind, word in zip(kinds, words)])


def words_of_kind(verb, words, wanted):
    """Those of the row's words that are of the kind."""
    return [word for kind, word in zip(ROWS[verb], words) if kind == wanted]


def yes_or_no(truth):
    """The word for a truth."""
    return "yes" if truth else "no"


def in_a_row(numbers):
    """The numbers, with blanks between."""
    return " ".join([str(number) for number in numbers])


def added(crew, i, j, number):
    """The crew changed by the plain table with the number at i, j."""
    p, size, _ = crew
    if i >= size or j >= size or i == j:
        raise NoPair("not the numbers of two rows")
    table = plain(size)
    table[i][j] = number % p
    return changed(crew, table)


def made(verb, crews, numbers, behind):
    """The crew that stands by a new name from such a row on."""
    if verb == "crew":
        return read_crew(behind)
    if verb == "turn":
        return turned_crew(crews[0])
    if verb == "beside":
        return beside(crews[0], crews[1])
    if verb == "times":
        return multiplied(crews[0], crews[1])
    return added(crews[0], numbers[0], numbers[1], numbers[2])


def told_of(verb, crew):
    """The answer about a crew."""
    if verb == "show":
        return crew_text(crew)
    if verb == "tight":
        return yes_or_no(is_tight(crew))
    if verb == "wholly":
        return yes_or_no(parts_wholly(crew))
    if verb == "apart":
        return yes_or_no(falls_apart(crew))
    if verb == "tower":
        return in_a_row(sorted([one[1] for one in parts(crew, tower(crew))]))
    if verb == "parts":
        return in_a_row(sorted([rank(crew[0], table) for table in parting(crew)]))
    return in_a_row([len(closing(crew)), len(vanishing(crew)), vanishing_power(crew)])


def told_of_two(verb, one, other):
    """The answer about two crews."""
    if verb == "along":
        return str(len(base(one, other)))
    return yes_or_no(alike(one, other) is not None)


class Desk:
    """Keeps crews by names: some rows make a crew, the others ask about crews that stand."""

    def __init__(self):
        self.kept = {}

    def say(self, text):
        """The answer to a text."""
        first, end, behind = text.partition("\n")
        words = first.split(" ")
        verb = words.pop(0)
        if not is_row(verb, words, end != ""):
            raise NoRow("a row that is none of the desk's")
        names = words_of_kind(verb, words, "name")
        if not all([name in self.kept for name in names]):
            raise NoName("no crew stands by the name")
        crews = [self.kept[name] for name in names]
        if ROWS[verb][0] == "new":
            numbers = [int(word) for word in words_of_kind(verb, words, "number")]
            self.kept[words[0]] = made(verb, crews, numbers, behind)
            return "ok"
        if len(crews) == 2:
            return told_of_two(verb, crews[0], crews[1])
        return told_of(verb, crews[0])

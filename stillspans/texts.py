"""Crews and words as texts, written and read."""

from stillspans.crews import MOST_STEPS, MOST_TABLES, is_crew, is_step
from stillspans.errors import NoText
from stillspans.rests import PRIMES
from stillspans.tables import shaped

FIGURES = "0123456789"

# more figures than any number of a crew or a word has
MOST_FIGURES = 4

SIGNS = (("*", "times"), ("+", "sum"), (".", "product"))


def crew_text(crew):
    """The text of a crew."""
    p, size, tables = crew
    rows = [f"prime {p}", f"size {size}"]
    for table in tables:
        rows.append("table")
        rows.extend([" ".join([str(number) for number in row]) for row in table])
    return "\n".join(rows)


def step_text(step):
    """The text of a step of a word."""
    if step[0] == "plain":
        return "plain"
    if step[0] == "table":
        return f"t{step[1]}"
    for sign, kind in SIGNS:
        if step[0] == kind:
            return f"{step[1]}{sign}{step[2]}"
    return None


def word_text(word):
    """The text of a word."""
    return " ".join([step_text(step) for step in word])


def number_of(text, most):
    """The whole number that the text writes in at most so many figures, or None."""
    if len(text) < 1 or len(text) > most or not all([sign in FIGURES for sign in text]):
        return None
    if text[0] == "0" and text != "0":
        return None
    return int(text)


def number_behind(name, words):
    """The number of a row that has just the name and a number, or None."""
    if len(words) != 2 or words[0] != name:
        return None
    return number_of(words[1], MOST_FIGURES)


def tables_of(rows, size):
    """The tables of the rows, each behind a row of its own, or None; with None for what is no number."""
    told = []
    for block in shaped(rows, size + 1):
        if block[0] != ["table"]:
            return None
        told.append([[number_of(text, MOST_FIGURES) for text in row] for row in block[1:]])
    return told


def read_crew(text):
    """The crew that the text tells."""
    rows = [row.split(" ") for row in text.split("\n")]
    if len(rows) < 2:
        raise NoText("a crew has more rows")
    p = number_behind("prime", rows[0])
    size = number_behind("size", rows[1])
    if p is None or size is None:
        raise NoText("a crew's text begins with its prime and its size")
    crew = (p, size, tables_of(rows[2:], size))
    # what is no number is no rest, and what is no table no crew's
    if not is_crew(crew):
        raise NoText("the text tells no crew")
    return crew


def step_of(text):
    """The step that the text tells, with None for what is no number, or None."""
    if text == "plain":
        return ("plain",)
    if text.startswith("t"):
        return "table", number_of(text[1:], MOST_FIGURES)
    for sign, kind in SIGNS:
        if sign in text:
            one, _, other = text.partition(sign)
            return kind, number_of(one, MOST_FIGURES), number_of(other, MOST_FIGURES)
    return None


def read_word(text):
    """The word, of some crew, that the text tells."""
    word = [step_of(step) for step in text.split(" ")]
    if len(word) > MOST_STEPS:
        raise NoText("a word has fewer steps")
    if not all([is_step(PRIMES[-1], MOST_TABLES, at, step) for at, step in enumerate(word)]):
        raise NoText("the text tells no word of any crew")
    return word

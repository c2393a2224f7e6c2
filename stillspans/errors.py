"""The refusals: each kind stands straight under SpanError."""


class SpanError(ValueError):
    """Any refusal of the program."""


class NoPart(SpanError):
    """Nought was handed in where a polynomial is parted."""


class NoWord(SpanError):
    """No word of the crew; at is the number of the first wrong step."""

    def __init__(self, at):
        super().__init__(f"no word: step {at}")
        self.at = at


class NoPaper(SpanError):
    """A paper that is not let by; where names its first fault."""

    def __init__(self, where):
        super().__init__(f"no paper: {where}")
        self.where = where


class NoTower(SpanError):
    """No tower of the crew, or no two still spans one within the other."""


class NoPair(SpanError):
    """Two things that do not fit one another."""


class NotTight(SpanError):
    """A crew that is not tight where a tight one is due."""


class TooMuch(SpanError):
    """What would come is no crew for its size."""


class NoText(SpanError):
    """A text that tells no crew or no word."""


class NoRow(SpanError):
    """A row that the desk does not know."""


class NoName(SpanError):
    """A name by which no crew stands at the desk."""

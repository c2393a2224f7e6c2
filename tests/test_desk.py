"""Point 31: the desk."""

import unittest

from stillspans.along import base
from stillspans.closing import closing, parts_wholly, vanishing, vanishing_power
from stillspans.crews import turned_crew
from stillspans.desk import Desk
from stillspans.errors import NoName, NoPair, NoRow, NoText, SpanError, TooMuch
from stillspans.parting import alike, falls_apart, parting
from stillspans.several import beside, changed, multiplied
from stillspans.texts import crew_text, read_crew
from stillspans.tight import is_tight
from stillspans.towers import tower
from tests.helper import (LARGEST, NO_NUMBERS, Draw, beside_plainly, crew_with_a_still_span,
                          mixtures, some_crews, unit_rows)

# the rows with so many names of crews, and with a name taken anew ahead
OF_ONE = ("show", "tight", "wholly", "apart", "tower", "parts", "closing")
OF_TWO = ("along", "alike")
NEW_OF_TWO = ("beside", "times")

NO_NAMES = ("", "A", "aB", "a1", "1", "a-", "a_b", "ninechars", "abcdefghi", "a.", "-", "~", "a" * 9,
            "a" * 12000, chr(0xe9), chr(0xdf), "a,", "*")

NO_NUMBER_TEXTS = ("", "-1", "+1", "01", "00", "1000", "0000", "001", "1" * 30, "1" * 5000, "a", "1a",
                   "1.0", "1_0", "x", chr(0x663), chr(0xb2), "~")


def shift(size):
    return unit_rows(size)[1:] + [[0] * size]


def texts_of(p):
    """Texts of crews by the prime, by names."""
    draw = Draw(700 + p)
    most = dict(LARGEST)[p]
    return {
        "one": (p, 1, [[[p - 1]], [[1]]]),
        "loose": crew_with_a_still_span(draw, p, most, 1, 2),
        "shift": (p, most, [shift(most), unit_rows(most)]),
        "tight": (p, 2, [[[0, 1], [0, 0]], [[0, 0], [1, 0]]]),
        "noughts": (p, most, [[[0] * most for _ in range(most)]]),
        "abcdefgh": (p, 2, [draw.rows(p, 2, 2)]),
        "z": (p, 2, [unit_rows(2)] * 2),
    }


def answer(crew, verb):
    """What is told of a crew by the row with the verb."""
    if verb == "show":
        return crew_text(crew)
    if verb in ("tight", "wholly", "apart"):
        told = {"tight": is_tight, "wholly": parts_wholly, "apart": falls_apart}[verb](crew)
        return "yes" if told else "no"
    if verb == "tower":
        forms = [[]] + tower(crew)
        sizes = sorted(len(upper) - len(lower) for lower, upper in zip(forms, forms[1:]))
        return " ".join(str(size) for size in sizes)
    if verb == "parts":
        p, size, _ = crew
        ranks = sorted(len([at for at in range(size) if p ** at < len(mixtures(p, table, size))])
                       for table in parting(crew))
        return " ".join(str(one) for one in ranks)
    return f"{len(closing(crew))} {len(vanishing(crew))} {vanishing_power(crew)}"


class Desks(unittest.TestCase):
    def with_crews(self, p):
        """A desk with crews by the prime."""
        desk = Desk()
        for name, crew in texts_of(p).items():
            self.ok(desk, f"crew {name}\n{crew_text(crew)}")
        return desk

    def ok(self, desk, text):
        self.told(desk, text, "ok")

    def told(self, desk, text, wanted):
        told = desk.say(text)
        self.assertIs(type(told), str)
        self.assertEqual(told, wanted, text)

    def refused(self, desk, refusal, text):
        with self.assertRaises(refusal, msg=text) as caught:
            desk.say(text)
        self.assertIs(type(caught.exception), refusal, text)
        self.assertIsInstance(caught.exception, SpanError)


class Rows(Desks):
    def test_each_row_about_one(self):
        for p, _ in LARGEST:
            desk = self.with_crews(p)
            for name, crew in texts_of(p).items():
                for verb in OF_ONE:
                    self.told(desk, f"{verb} {name}", answer(crew, verb))

    def test_some_answers(self):
        desk = self.with_crews(2)
        for text, wanted in (("tight one", "yes"), ("tight shift", "no"), ("wholly shift", "no"),
                             ("wholly noughts", "yes"), ("apart shift", "no"), ("apart noughts", "yes"),
                             ("tower shift", "1 1 1 1 1 1"), ("tower tight", "2"), ("parts shift", "6"),
                             ("parts noughts", "1 1 1 1 1 1"), ("closing shift", "6 5 6"),
                             ("closing noughts", "1 0 1"), ("closing tight", "4 0 1"), ("along one z", "2"),
                             ("along z z", "4"), ("alike z z", "yes"), ("alike z tight", "no"),
                             ("along shift shift", "6"), ("alike one z", "no"),
                             ("show tight", "prime 2\nsize 2\ntable\n0 1\n0 0\ntable\n0 0\n1 0")):
            self.told(desk, text, wanted)

    def test_sizes_and_ranks_rise(self):
        desk = Desk()
        for p, most in LARGEST:
            for crew in some_crews(712):
                if crew[0] == p and crew[1] == most:
                    self.ok(desk, f"crew a\n{crew_text(crew)}")
                    for verb in ("tower", "parts"):
                        told = desk.say(f"{verb} a")
                        numbers = [int(word) for word in told.split(" ")]
                        self.assertEqual(numbers, sorted(numbers))
                        self.assertEqual(sum(numbers), most)
                        self.assertEqual(told, answer(crew, verb))
        one, other = (3, 2, [shift(2)]), (3, 1, [[[1]]])
        for pair in ((one, other), (other, one)):
            self.ok(desk, f"crew a\n{crew_text(beside_plainly(*pair))}")
            self.told(desk, "parts a", "1 2")
        ring = (2, 2, [[[0, 1], [1, 1]]])
        for pair in ((ring, (2, 1, [[[1]]])), ((2, 1, [[[1]]]), ring)):
            self.ok(desk, f"crew a\n{crew_text(beside_plainly(*pair))}")
            self.told(desk, "tower a", "1 2")

    def test_rows_about_two(self):
        for p, _ in LARGEST:
            desk = self.with_crews(p)
            crews = texts_of(p)
            for one, ahead in crews.items():
                for other, behind in crews.items():
                    if len(ahead[2]) == len(behind[2]):
                        self.told(desk, f"along {one} {other}", str(len(base(ahead, behind))))
                        wanted = "no" if alike(ahead, behind) is None else "yes"
                        self.told(desk, f"alike {one} {other}", wanted)

    def test_crews_made_of_two(self):
        for p, most in LARGEST:
            desk = self.with_crews(p)
            crews = texts_of(p)
            for one, ahead in crews.items():
                for other, behind in crews.items():
                    if len(ahead[2]) == len(behind[2]):
                        if ahead[1] + behind[1] <= most:
                            self.ok(desk, f"beside new {one} {other}")
                            self.told(desk, "show new", crew_text(beside(ahead, behind)))
                        if ahead[1] * behind[1] <= most:
                            self.ok(desk, f"times new {one} {other}")
                            self.told(desk, "show new", crew_text(multiplied(ahead, behind)))

    def test_turned(self):
        for p, _ in LARGEST:
            desk = self.with_crews(p)
            for name, crew in texts_of(p).items():
                self.ok(desk, f"turn new {name}")
                self.told(desk, "show new", crew_text(turned_crew(crew)))
                self.ok(desk, "turn new new")
                self.told(desk, "show new", crew_text(crew))

    def test_add(self):
        for p, most in LARGEST:
            desk = self.with_crews(p)
            for name, crew in texts_of(p).items():
                size = crew[1]
                for i in range(size):
                    for j in range(size):
                        for number in (0, 1, p - 1, p, p + 1, 999):
                            if i != j:
                                table = unit_rows(size)
                                table[i][j] = number % p
                                self.ok(desk, f"add new {name} {i} {j} {number}")
                                self.told(desk, "show new", crew_text(changed(crew, table)))

    def test_a_name_taken_anew(self):
        desk = self.with_crews(5)
        crews = texts_of(5)
        self.ok(desk, "turn shift shift")
        self.told(desk, "show shift", crew_text(turned_crew(crews["shift"])))
        self.ok(desk, "beside one one one")
        self.told(desk, "show one", crew_text(beside(crews["one"], crews["one"])))
        self.ok(desk, "times tight tight one")
        self.told(desk, "show tight", crew_text(multiplied(crews["tight"], beside(crews["one"], crews["one"]))))
        self.ok(desk, "add z z 0 1 3")
        self.told(desk, "show z", crew_text(crews["z"]))
        self.ok(desk, f"crew z\n{crew_text(crews['noughts'])}")
        self.told(desk, "show z", crew_text(crews["noughts"]))
        self.told(desk, "show loose", crew_text(crews["loose"]))

    def test_what_was_made_stays(self):
        desk = self.with_crews(3)
        crews = texts_of(3)
        self.ok(desk, "turn other shift")
        self.ok(desk, "beside side one one")
        self.ok(desk, f"crew shift\n{crew_text(crews['noughts'])}")
        self.ok(desk, f"crew one\n{crew_text(crews['noughts'])}")
        self.told(desk, "show other", crew_text(turned_crew(crews["shift"])))
        self.told(desk, "show side", crew_text(beside(crews["one"], crews["one"])))

    def test_words_of_rows_as_names(self):
        desk = Desk()
        for name in ("crew", "show", "turn", "add", "along", "ok", "yes", "prime", "table", "a", "z"):
            self.ok(desk, f"crew {name}\nprime 2\nsize 1\ntable\n1")
            self.ok(desk, f"turn {name} {name}")
            self.told(desk, f"show {name}", "prime 2\nsize 1\ntable\n1")
            self.told(desk, f"along {name} {name}", "1")

    def test_two_desks(self):
        one, other = Desk(), Desk()
        self.ok(one, "crew a\nprime 2\nsize 1\ntable\n1")
        self.refused(other, NoName, "show a")
        self.ok(other, "crew a\nprime 3\nsize 1\ntable\n2")
        self.ok(other, "crew b\nprime 3\nsize 1\ntable\n2")
        self.told(one, "show a", "prime 2\nsize 1\ntable\n1")
        self.told(other, "show a", "prime 3\nsize 1\ntable\n2")
        self.refused(one, NoName, "show b")


class Refusals(Desks):
    def kept(self, desk, p):
        """That the desk's crews are the ones that it began with."""
        for name, crew in texts_of(p).items():
            self.told(desk, f"show {name}", crew_text(crew))
        self.refused(desk, NoName, "show new")
        self.refused(desk, NoName, "show a")

    def good(self):
        """Each kind of row that the desk answers, crews standing by these names."""
        for verb in OF_ONE:
            yield f"{verb} shift"
        for verb in OF_TWO:
            yield f"{verb} shift loose"
        for verb in NEW_OF_TWO:
            yield f"{verb} new one one"
        yield "turn new loose"
        yield "add new loose 0 1 2"

    def test_rows_that_are_none(self):
        desk = self.with_crews(3)
        for text in ("", " ", "  ", "\n", "\n\n", "crew", "show", "turn", "beside", "times", "add", "tight",
                     "wholly", "apart", "tower", "parts", "closing", "along", "alike", "none one", "shows one",
                     "sho one", "Show one", "SHOW one", "one", "one show", "show, one", "show,one", "showone",
                     "ok", "drop one", "name one", "help", "crew a", "prime 2", "~" * 13000, " " * 13000,
                     "\n" * 13000, "show " + "a" * 12000, "\nshow one", "\ncrew a", "-", "0", "new one"):
            self.refused(desk, NoRow, text)
        self.kept(desk, 3)

    def test_blanks(self):
        desk = self.with_crews(3)
        for text in list(self.good()) + ["crew new\nprime 2\nsize 1\ntable\n1"]:
            first, end, behind = text.partition("\n")
            for spoilt in [" " + first, first + " ", "  " + first, first + "  ", first.replace(" ", "  "),
                           first.replace(" ", "\t"), first + "\t", first + "\r", first.replace(" ", ""),
                           first.replace(" ", "  ", 1), " " + first + " "]:
                self.refused(desk, NoRow, spoilt + end + behind)
        self.kept(desk, 3)

    def test_a_word_more_or_less(self):
        desk = self.with_crews(3)
        for text in self.good():
            self.refused(desk, NoRow, text + " one")
            self.refused(desk, NoRow, text + " 1")
            self.refused(desk, NoRow, text.rpartition(" ")[0])
            self.refused(desk, NoRow, text.partition(" ")[2])
            self.refused(desk, NoRow, text.replace(" ", " one ", 1))
        self.refused(desk, NoRow, "crew new one\nprime 2\nsize 1\ntable\n1")
        self.refused(desk, NoRow, "crew\nprime 2\nsize 1\ntable\n1")
        self.kept(desk, 3)

    def test_line_ends(self):
        desk = self.with_crews(3)
        for text in self.good():
            for behind in ("\n", "\n\n", "\n ", "\nshow one", "\nprime 2\nsize 1\ntable\n1"):
                self.refused(desk, NoRow, text + behind)
            self.refused(desk, NoRow, text.replace(" ", "\n", 1))
            self.refused(desk, NoRow, "\n" + text)
        self.refused(desk, NoRow, "crew new")
        self.refused(desk, NoRow, "crew new prime 2")
        self.refused(desk, NoRow, "\ncrew new\nprime 2\nsize 1\ntable\n1")
        self.kept(desk, 3)

    def test_names_that_are_none(self):
        desk = self.with_crews(3)
        for name in NO_NAMES + tuple(str(thing) for thing in NO_NUMBERS[:4]):
            for verb in OF_ONE:
                self.refused(desk, NoRow, f"{verb} {name}")
            for verb in OF_TWO + ("turn",):
                self.refused(desk, NoRow, f"{verb} {name} one")
                self.refused(desk, NoRow, f"{verb} one {name}")
            for verb in NEW_OF_TWO:
                self.refused(desk, NoRow, f"{verb} {name} one one")
                self.refused(desk, NoRow, f"{verb} new {name} one")
                self.refused(desk, NoRow, f"{verb} new one {name}")
            self.refused(desk, NoRow, f"add {name} loose 0 1 1")
            self.refused(desk, NoRow, f"add new {name} 0 1 1")
            self.refused(desk, NoRow, f"crew {name}\nprime 2\nsize 1\ntable\n1")
        self.kept(desk, 3)

    def test_numbers_that_are_none(self):
        desk = self.with_crews(3)
        for text in NO_NUMBER_TEXTS:
            self.refused(desk, NoRow, f"add new loose {text} 1 1")
            self.refused(desk, NoRow, f"add new loose 0 {text} 1")
            self.refused(desk, NoRow, f"add new loose 0 1 {text}")
        self.kept(desk, 3)

    def test_names_by_which_none_stands(self):
        desk = self.with_crews(3)
        for verb in OF_ONE:
            self.refused(desk, NoName, f"{verb} a")
        for verb in OF_TWO:
            self.refused(desk, NoName, f"{verb} a one")
            self.refused(desk, NoName, f"{verb} one a")
            self.refused(desk, NoName, f"{verb} a a")
        for verb in NEW_OF_TWO:
            self.refused(desk, NoName, f"{verb} new a one")
            self.refused(desk, NoName, f"{verb} new one a")
            self.refused(desk, NoName, f"{verb} new new one")
            self.refused(desk, NoName, f"{verb} new one new")
        self.refused(desk, NoName, "turn new a")
        self.refused(desk, NoName, "turn new new")
        self.refused(desk, NoName, "turn one a")
        self.refused(desk, NoName, "add new a 0 1 1")
        self.kept(desk, 3)
        self.refused(Desk(), NoName, "show one")

    def test_no_text_behind(self):
        desk = self.with_crews(3)
        for behind in ("", " ", "\n", "x", "prime 2", "prime 2\nsize 1\ntable\n2", "prime 2\nsize 1\ntable\n1\n",
                       "\nprime 2\nsize 1\ntable\n1", "prime 2\nsize 1\ntable\n1 ", "show one", "0" * 12000,
                       "\n" * 12000, "prime 2\nsize 1", "prime 4\nsize 1\ntable\n1"):
            for name in ("new", "one"):
                self.refused(desk, NoText, f"crew {name}\n{behind}")
        self.kept(desk, 3)

    def test_what_the_functions_refuse(self):
        for p, most in LARGEST:
            desk = self.with_crews(p)
            for verb in NEW_OF_TWO:
                self.refused(desk, TooMuch, f"{verb} new loose loose")
                self.refused(desk, NoPair, f"{verb} new loose noughts")
                self.refused(desk, TooMuch, f"{verb} one loose shift")
                self.refused(desk, NoPair, f"{verb} one one noughts")
            self.refused(desk, TooMuch, "beside one one loose")
            for verb in OF_TWO:
                self.refused(desk, NoPair, f"{verb} one noughts")
                self.refused(desk, NoPair, f"{verb} noughts one")
            self.kept(desk, p)

    def test_crews_of_unlike_primes(self):
        desk = Desk()
        self.ok(desk, "crew a\nprime 2\nsize 1\ntable\n1")
        self.ok(desk, "crew b\nprime 3\nsize 1\ntable\n1")
        for text in ("along a b", "alike b a", "beside a a b", "times c b a"):
            self.refused(desk, NoPair, text)
        self.told(desk, "show a", "prime 2\nsize 1\ntable\n1")

    def test_rows_of_add(self):
        for p, _ in LARGEST:
            desk = self.with_crews(p)
            for name, crew in texts_of(p).items():
                size = crew[1]
                for i in list(range(size + 2)) + [10, 999]:
                    for j in list(range(size + 2)) + [10, 999]:
                        if i == j or i >= size or j >= size:
                            for number in (0, 1, 999):
                                self.refused(desk, NoPair, f"add new {name} {i} {j} {number}")
                                self.refused(desk, NoPair, f"add {name} {name} {i} {j} {number}")
            self.kept(desk, p)


class Order(Desks):
    """Of two refusals that are due the one that is told first is made."""

    def test_no_row_ahead_of_no_name(self):
        desk = self.with_crews(3)
        for text in ("show a b", "show a\n", "show  a", "add new a 0 1 1000", "add new a 00 1 1", "turn new a b",
                     "beside New a one", "beside new a B", "along a B", "turn a9 a", "alike a b\n", "add new a 0 1"):
            self.refused(desk, NoRow, text)

    def test_no_row_ahead_of_no_text(self):
        desk = self.with_crews(3)
        for text in ("crew New\nx", "crew\nx", "crew a b\nx", "crew  a\nx", "crew a \nx", "crew\n", "crew ninechars\nx"):
            self.refused(desk, NoRow, text)

    def test_no_row_ahead_of_the_rest(self):
        desk = self.with_crews(3)
        for text in ("add new one 5 5 1000", "add new one 1000 0 1", "along one noughts\n", "times New loose loose",
                     "beside new loose loose\n", "alike one noughts one", "times new loose loose "):
            self.refused(desk, NoRow, text)

    def test_no_name_ahead_of_the_rest(self):
        desk = self.with_crews(3)
        for text in ("add new a 5 5 1", "add new a 0 0 0", "along a noughts", "alike noughts a", "beside new loose a",
                     "times new a loose"):
            self.refused(desk, NoName, text)

    def test_no_pair_ahead_of_too_much(self):
        desk = self.with_crews(3)
        self.ok(desk, "crew five\nprime 3\nsize 5" + ("\ntable" + "\n1 0 0 0 0" * 5) * 3)
        for text in ("beside new five loose", "times new loose five", "beside new noughts loose"):
            self.refused(desk, NoPair, text)


if __name__ == "__main__":
    unittest.main()

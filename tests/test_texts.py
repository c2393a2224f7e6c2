"""Point 30: crews and words written and read."""

import unittest

from stillspans.crews import is_crew, worths
from stillspans.errors import NoText, SpanError
from stillspans.texts import crew_text, read_crew, read_word, word_text
from stillspans.tight import is_tight, paper
from tests.helper import LARGEST, PRIMES, Draw, crews_over_fields, drawn_word, some_crews, unit_rows

# a crew, and its text
CREW = (3, 2, [[[0, 1], [2, 0]], [[1, 1], [0, 2]]])
TEXT = "prime 3\nsize 2\ntable\n0 1\n2 0\ntable\n1 1\n0 2"

LARGE = (11, 2, [[[10, 0], [9, 10]]])
LARGE_TEXT = "prime 11\nsize 2\ntable\n10 0\n9 10"

# a word with each kind of step, and its text
WORD = [("plain",), ("table", 0), ("times", 2, 0), ("sum", 0, 1), ("product", 1, 2), ("table", 3),
        ("times", 10, 5), ("sum", 4, 4), ("times", 0, 7), ("product", 8, 3), ("sum", 9, 0)]
WORD_TEXT = "plain t0 2*0 0+1 1.2 t3 10*5 4+4 0*7 8.3 9+0"

BLANK, END = " ", "\n"

# what is no sign that stands in a number
OTHER_SIGNS = ("-", "+", "_", ".", ",", "a", "x", "e", "*", "/", ":", '"', "~", "!", "o", "O", "l", "'")


def crew_text_plainly(crew):
    p, size, tables = crew
    text = "prime " + str(p) + "\nsize " + str(size)
    for table in tables:
        text += "\ntable"
        for row in table:
            text += "\n" + str(row[0])
            for number in row[1:]:
                text += " " + str(number)
    return text


def word_text_plainly(word):
    told = {"plain": "plain", "table": "t{}", "times": "{}*{}", "sum": "{}+{}", "product": "{}.{}"}
    return " ".join(told[step[0]].format(*step[1:]) for step in word)


class Texts(unittest.TestCase):
    def refused(self, function, text):
        with self.assertRaises(NoText, msg=text) as caught:
            function(text)
        self.assertIs(type(caught.exception), NoText)
        self.assertIsInstance(caught.exception, SpanError)

    def there_and_back(self, crew):
        text = crew_text(crew)
        self.assertIs(type(text), str)
        self.assertEqual(text, crew_text_plainly(crew))
        told = read_crew(text)
        self.assertEqual(told, crew)
        self.assertTrue(is_crew(told))

    def spoilt(self, function, text):
        """That the text with such a sign put in anywhere is refused."""
        for at in range(len(text) + 1):
            for sign in (BLANK, END) + OTHER_SIGNS:
                self.refused(function, text[:at] + sign + text[at:])


class Crews(Texts):
    def test_texts(self):
        self.assertEqual(crew_text(CREW), TEXT)
        self.assertEqual(read_crew(TEXT), CREW)
        self.assertEqual(crew_text(LARGE), LARGE_TEXT)
        self.assertEqual(read_crew(LARGE_TEXT), LARGE)
        self.assertEqual(read_crew("prime 2\nsize 1\ntable\n0"), (2, 1, [[[0]]]))

    def test_there_and_back(self):
        for crew in some_crews(601):
            self.there_and_back(crew)
        for _, _, crew in crews_over_fields(602, 4):
            self.there_and_back(crew)

    def test_kinds(self):
        told = read_crew(TEXT)
        self.assertIs(type(told), tuple)
        self.assertEqual([type(thing) for thing in told], [int, int, list])
        for table in told[2]:
            self.assertIs(type(table), list)
            for row in table:
                self.assertIs(type(row), list)
                self.assertTrue(all(type(number) is int for number in row))

    def test_a_sign_put_in(self):
        self.spoilt(read_crew, TEXT)
        self.spoilt(read_crew, LARGE_TEXT)

    def test_a_nought_ahead(self):
        for text in (TEXT, LARGE_TEXT):
            for at, sign in enumerate(text):
                if sign in "0123456789":
                    if text[at - 1] in " \n":
                        self.refused(read_crew, text[:at] + "0" + text[at:])
                        self.refused(read_crew, text[:at] + "00" + text[at:])
                    self.refused(read_crew, text[:at] + "000000000000000000000000000000" + text[at:])

    def test_a_sign_left_out(self):
        for at in range(len(TEXT)):
            self.refused(read_crew, TEXT[:at] + TEXT[at + 1:])
        for at in range(len(LARGE_TEXT)):
            other = LARGE_TEXT[:at] + LARGE_TEXT[at + 1:]
            if LARGE_TEXT[at] in "01" and LARGE_TEXT[at - 1] in "01 \n" and at > 8:
                # of 10 one figure may be left out, of 0 none
                alone = not (LARGE_TEXT[at - 1] == "1" or LARGE_TEXT[at + 1:at + 2] == "0")
                if not alone:
                    self.assertEqual(crew_text(read_crew(other)), other)
                    continue
            self.refused(read_crew, other)

    def test_rows_left_out_put_in_and_exchanged(self):
        rows = TEXT.split(END)
        for at in range(len(rows)):
            self.refused(read_crew, END.join(rows[:at] + rows[at + 1:]))
            for row in ("", "table", "0 1", "prime 3", "size 2", "plain", "0", "0 0 0", "1", rows[at]):
                self.refused(read_crew, END.join(rows[:at] + [row] + rows[at:]))
            for behind in range(at):
                other = list(rows)
                other[at], other[behind] = other[behind], other[at]
                if rows[at] == "table" or rows[behind] == "table" or behind < 2:
                    if other != rows:
                        self.refused(read_crew, END.join(other))
        for at in range(1, len(rows)):
            # the first five are a crew by themselves
            if at != 5:
                self.refused(read_crew, END.join(rows[:at]))
            self.refused(read_crew, END.join(rows[:at]) + END)
            self.refused(read_crew, END.join(rows[at:]))

    def test_blanks_and_line_ends_about(self):
        for extra in (BLANK, END, "\t", "\r", BLANK + BLANK, END + END):
            self.refused(read_crew, extra + TEXT)
            self.refused(read_crew, TEXT + extra)
            self.refused(read_crew, extra)
        for row in TEXT.split(END):
            for extra in (BLANK, "\t", "\r"):
                self.refused(read_crew, TEXT.replace(row, row + extra))
                self.refused(read_crew, TEXT.replace(row, extra + row))
        self.refused(read_crew, TEXT.replace(END, BLANK))
        self.refused(read_crew, TEXT.replace(END, END + END))
        self.refused(read_crew, TEXT.replace(BLANK, BLANK + BLANK))
        self.refused(read_crew, TEXT.replace(BLANK, END))
        self.refused(read_crew, TEXT.replace(BLANK, ""))
        self.refused(read_crew, TEXT.replace(END, ""))

    def test_other_words(self):
        for text in ("", BLANK, END, "0", "prime", "prime 2", "prime 2\nsize 1", "prime 2\nsize 1\n",
                     "prime 2\nsize 1\ntable", "prime 2\nsize 1\ntable\n", "crew", "plain", "~" * 13000,
                     BLANK * 13000, END * 13000, "0" * 13000, "prime " + "1" * 12990, "table\n" * 2000,
                     "prime 2\nsize " + "1" * 12980):
            self.refused(read_crew, text)
        for old, news in (("prime", ("Prime", "PRIME", "primes", "prim", "p", "size", "")),
                          ("size", ("Size", "sizes", "siz", "prime", "")),
                          ("table", ("Table", "tables", "tabl", "t", "table 2", "table 0", ""))):
            for new in news:
                self.refused(read_crew, TEXT.replace(old, new))
                self.refused(read_crew, TEXT.replace(old, new, 1))

    def test_primes(self):
        for p in range(0, 40):
            for size, rows in ((1, "0"), (2, "0 1\n1 0")):
                text = f"prime {p}\nsize {size}\ntable\n{rows}"
                if p in PRIMES:
                    self.assertEqual(read_crew(text)[:2], (p, size))
                else:
                    self.refused(read_crew, text)
        for p in ("-2", "+2", "02", "2.0", "two", "1" * 30, "2" * 4000, "2" * 12000, "22", "112", ""):
            self.refused(read_crew, f"prime {p}\nsize 1\ntable\n0")

    def test_sizes(self):
        for p in PRIMES:
            for size in range(0, 9):
                rows = END.join(BLANK.join(["1"] * size) for _ in range(size))
                text = f"prime {p}\nsize {size}\ntable\n{rows}"
                if 1 <= size <= dict(LARGEST)[p]:
                    self.assertEqual(read_crew(text), (p, size, [[[1] * size] * size]))
                else:
                    self.refused(read_crew, text)
        self.refused(read_crew, "prime 2\nsize 0\ntable")
        self.refused(read_crew, "prime 2\nsize 0\ntable\ntable")
        for size in ("01", "-1", "+1", "1" * 30, "1" * 5000, "10", "1.", ""):
            self.refused(read_crew, f"prime 2\nsize {size}\ntable\n0")

    def test_how_many_tables(self):
        for p, most in LARGEST:
            for size in range(1, most + 1):
                table = "\ntable\n" + END.join(BLANK.join(map(str, row)) for row in unit_rows(size))
                for many in range(0, 8):
                    text = f"prime {p}\nsize {size}" + table * many
                    if 1 <= many <= 4:
                        self.assertEqual(read_crew(text), (p, size, [unit_rows(size)] * many))
                    else:
                        self.refused(read_crew, text)

    def test_a_number_less_or_more(self):
        for p, most in LARGEST:
            for size in range(1, most + 1):
                for row in range(size):
                    for many in (size - 1, size + 1):
                        rows = [["0"] * size for _ in range(size)]
                        rows[row] = ["0"] * many
                        text = END.join(BLANK.join(one) for one in rows)
                        self.refused(read_crew, f"prime {p}\nsize {size}\ntable\n{text}")

    def test_rests(self):
        for p in PRIMES:
            for number in range(0, 15):
                text = f"prime {p}\nsize 2\ntable\n0 0\n0 {number}"
                if number < p:
                    self.assertEqual(read_crew(text), (p, 2, [[[0, 0], [0, number]]]))
                else:
                    self.refused(read_crew, text)
            for number in ("-1", "-0", "+1", "+0", "00", "01", "1" * 30, "0" * 30, "1" * 5000, "a",
                           "1.0", "1e0", "0x0", "1_0", "0,", "None", "True", "0b1", ""):
                for rows in (f"{number} 0\n0 0", f"0 0\n0 {number}", f"0 {number}\n0 0"):
                    self.refused(read_crew, f"prime {p}\nsize 2\ntable\n{rows}")

    def test_figures_that_are_none_of_0_to_9(self):
        for figure in (0xb2, 0x663, 0x967, 0xff11, 0x2460):
            sign = chr(figure)
            for old in ("3", "2\ntable\n0", "0 1", "1 1"):
                self.refused(read_crew, TEXT.replace(old, old.replace(old[0], sign), 1))
            self.refused(read_word, "plain t" + sign)
            self.refused(read_word, "plain plain " + sign + "*1")
            self.refused(read_word, "plain plain 1+" + sign)


class Words(Texts):
    def test_texts(self):
        self.assertEqual(word_text(WORD), WORD_TEXT)
        self.assertEqual(read_word(WORD_TEXT), WORD)
        self.assertEqual(word_text([("plain",), ("table", 0), ("times", 2, 0), ("sum", 0, 1),
                                    ("product", 1, 2)]), "plain t0 2*0 0+1 1.2")

    def test_kinds(self):
        told = read_word(WORD_TEXT)
        self.assertIs(type(told), list)
        for step in told:
            self.assertIs(type(step), tuple)
            self.assertIs(type(step[0]), str)
            self.assertTrue(all(type(number) is int for number in step[1:]))

    def test_each_step_alone(self):
        self.assertEqual(read_word("plain"), [("plain",)])
        for k in range(4):
            self.assertEqual(read_word(f"t{k}"), [("table", k)])
            self.assertEqual(word_text([("table", k)]), f"t{k}")
        for k in range(4, 130):
            self.refused(read_word, f"t{k}")
        for text in ("0*0", "0+0", "0.0", "1*0", "10*1"):
            self.refused(read_word, text)

    def test_there_and_back(self):
        draw = Draw(611)
        for p, most in LARGEST:
            for many in range(1, 40):
                crew = (p, 1, [[[0]]] * (1 + draw.below(4)))
                word = drawn_word(draw, crew, many)
                text = word_text(word)
                self.assertIs(type(text), str)
                self.assertEqual(text, word_text_plainly(word))
                self.assertEqual(read_word(text), word)

    def test_words_that_were_told(self):
        for _, _, crew in crews_over_fields(612, 2):
            if is_tight(crew):
                word = paper(crew)[1]
                told = read_word(word_text(word))
                self.assertEqual(told, word)
                self.assertEqual(worths(crew, told), worths(crew, word))

    def test_rests(self):
        for rest in range(0, 130):
            if rest < 11:
                self.assertEqual(read_word(f"plain {rest}*0"), [("plain",), ("times", rest, 0)])
            else:
                self.refused(read_word, f"plain {rest}*0")

    def test_steps_ahead(self):
        word = ["plain"] * 12
        for at in range(12):
            for number in list(range(0, 14)) + [99, 100, 1999, 2000]:
                for text, step in ((f"1*{number}", ("times", 1, number)),
                                   (f"0+{number}", ("sum", 0, number)),
                                   (f"{number}+0", ("sum", number, 0)),
                                   (f"0.{number}", ("product", 0, number)),
                                   (f"{number}.0", ("product", number, 0))):
                    whole = BLANK.join(word[:at] + [text] + word[at:])
                    if number < at:
                        self.assertEqual(read_word(whole)[at], step)
                    else:
                        self.refused(read_word, whole)

    def test_how_many_steps(self):
        for many in (1, 1999, 2000):
            text = BLANK.join(["t0"] * many)
            self.assertEqual(read_word(text), [("table", 0)] * many)
        for many in (2001, 2002, 3000, 4000):
            self.refused(read_word, BLANK.join(["t0"] * many))
        large = BLANK.join(["t1"] * 1999 + ["1998+1998"])
        self.assertEqual(read_word(large)[-1], ("sum", 1998, 1998))
        self.assertEqual(word_text(read_word(large)), large)
        self.refused(read_word, BLANK.join(["t1"] * 1998 + ["1998+1997"]))

    def test_a_sign_put_in(self):
        text = "plain t0 2*0 0+1 1.2"
        self.spoilt(read_word, text)

    def test_a_figure_put_in(self):
        text = "plain t0 2*0 0+1 1.2"
        for figure in "0123456789":
            for at in range(len(text) + 1):
                # no number of two figures is that of a step ahead, of a table, or a rest but 10
                self.refused(read_word, text[:at] + figure + text[at:])

    def test_a_nought_ahead(self):
        for text in ("t00", "t01", "plain 00*0", "plain 01*0", "plain 1*00", "plain plain 1+00",
                     "plain plain 01+1", "plain plain 01.1", "plain plain 1.01", "plain 0" * 3,
                     "plain 1*" + "0" * 30, "t" + "0" * 5000, "t" + "1" * 30, "t" + "1" * 12000):
            self.refused(read_word, text)

    def test_other_words(self):
        for text in ("", BLANK, END, "Plain", "PLAIN", "plains", "plai", "t", "T0", "t 0", "table", "t-1",
                     "t+1", "t0.", "t0t0", "tt0", "0", "1", "*", "+", ".", "1*", "*1", "plain 1*", "plain *0",
                     "plain +", "plain 0+", "plain +0", "plain .0", "plain 0.", "plain 0++0", "plain 0..0",
                     "plain 0**0", "plain 1*0*0", "plain 0+0+0", "plain 0.0.0", "plain 1*0+0", "plain 1*0.0",
                     "plain 0+0.0", "plain 0-0", "plain 0/0", "plain 0,0", "plain 0:0", "plain 1x0", "plain -1*0",
                     "plain 1*-0", "plain 0+-0", "plain 0", "plain plain()", "plain t", "plain None",
                     "plain 0 * 0", "plain 0* 0", "plain 0 +0", "plain,t0", "plain;t0", "plain  t0", " plain",
                     "plain ", "plain\n", "\nplain", "plain\nt0", "plain\tt0", "plain \nt0", "t0\n", "t0\r",
                     "~" * 13000, BLANK * 13000, "plain " * 2000, "1" * 13000, "plain1*0", "plain 1*0plain",
                     "plain 1.0*0", "plain 1+0*0", "plain 0.1*0", TEXT):
            self.refused(read_word, text)


if __name__ == "__main__":
    unittest.main()

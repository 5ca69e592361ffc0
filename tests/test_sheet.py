"""Points 8.1 and 8.2 and the interface of fieldmaps.sheet."""

import unittest

from fieldmaps.errors import NoText
from fieldmaps.recurrences import Recurrence
from fieldmaps.sheet import read_line, row_text
from tests.plain import F4, ODD_VALUES

# Each form with words that fit it.
EXAMPLES = (
    ("field f 3 1,0,1", ("field", "f", 3, (1, 0, 1))),
    ("factor f 0,0,1,1", ("factor", "f", (0, 0, 1, 1))),
    ("maps f g", ("maps", "f", "g")),
    ("order f 4", ("order", "f", 4)),
    ("log f 4 1", ("log", "f", 4, 1)),
    ("roots f 4 2", ("roots", "f", 4, 2)),
    ("least f 4", ("least", "f", 4)),
    ("trace f 4 1", ("trace", "f", 4, 1)),
    ("norm f 4 1", ("norm", "f", 4, 1)),
    ("recur f 0,1,1,2", ("recur", "f", (0, 1, 1, 2))),
)

# What stands behind the first word, by its letter: a name, a number, a row.
FORMS = {
    "field": "abc", "factor": "ac", "maps": "aa", "order": "ab", "log": "abb", "roots": "abb", "least": "ab",
    "trace": "abb", "norm": "abb", "recur": "ac",
}
GOOD = {
    "a": (("a", "a"), ("z", "z"), ("abcdefgh", "abcdefgh"), ("field", "field"), ("f", "f")),
    "b": (("0", 0), ("1", 1), ("9", 9), ("10", 10), ("100", 100), ("9999", 9999)),
    "c": (("0", (0,)), ("9999", (9999,)), ("0,0", (0, 0)), ("1,20,300,4000", (1, 20, 300, 4000)),
          (",".join(["7"] * 30), (7,) * 30)),
}
BAD = {
    "a": ("abcdefghi", "F", "fF", "f1", "1", "f,g", "f-", "f_", "#", "0", "f.", "1,2"),
    "b": ("10000", "00", "01", "007", "0000", "00000", "-1", "+1", "1.0", "1,2", "a", "1_0", "0x1", "1e3", "#",
          "12345678"),
    "c": (",", "1,", ",1", "1,,2", ",,", "1,2,", "01", "1,02", "1,10000", "1,-1", "1,a", "a", "1;2", "1,00",
          ",".join(["7"] * 31), ",".join(["7"] * 32), "1,+2", "-0"),
}


class SheetCase(unittest.TestCase):
    def check_none(self, line):
        with self.assertRaises(NoText, msg=repr(line)) as caught:
            read_line(line)
        self.assertEqual(caught.exception.at, 0)


class TestForms(SheetCase):
    def test_examples(self):
        for line, command in EXAMPLES:
            self.assertEqual(read_line(line), command)

    def test_kinds_of_values(self):
        for line, _ in EXAMPLES:
            command = read_line(line)
            self.assertIs(type(command), tuple)
            for item in command:
                self.assertIn(type(item), (str, int, tuple))
                if isinstance(item, tuple):
                    self.assertTrue(all(type(number) is int for number in item))

    def test_least_and_greatest_values(self):
        for word, form in FORMS.items():
            first = [GOOD[letter][0] for letter in form]
            for at, letter in enumerate(form):
                for text, value in GOOD[letter]:
                    told = first[:at] + [(text, value)] + first[at + 1:]
                    line = " ".join([word] + [part[0] for part in told])
                    self.assertEqual(read_line(line), (word, *[part[1] for part in told]))

    def test_words_that_do_not_fit(self):
        for word, form in FORMS.items():
            texts = [GOOD[letter][0][0] for letter in form]
            for at, letter in enumerate(form):
                for bad in BAD[letter]:
                    self.check_none(" ".join([word] + texts[:at] + [bad] + texts[at + 1:]))

    def test_too_few_and_too_many_words(self):
        for word, form in FORMS.items():
            texts = [word] + [GOOD[letter][0][0] for letter in form]
            for count in range(1, len(texts)):
                self.check_none(" ".join(texts[:count]))
            for more in ("a", "0", "1,2", "#"):
                self.check_none(" ".join(texts + [more]))

    def test_other_first_words(self):
        for word in ("Field", "FIELD", "fields", "fiel", "f", "empty", "x#", "log2", "root", "root s", "1", ",",
                     "done"):
            for rest in ("", " f", " f 1", " f 1,2", " f g", " f 3 0,1", " f 1 1"):
                self.check_none(word + rest)


class TestEmptyLines(SheetCase):
    def test_no_words(self):
        for line in ("", " ", "  ", " " * 2000):
            self.assertEqual(read_line(line), ("empty",))

    def test_a_number_sign_as_the_first_character(self):
        for line in ("#", "##", "# ", "#field f 2 0,1", "# field f 2 0,1", "#~", "# order f 1 2 3", "#" * 2000):
            self.assertEqual(read_line(line), ("empty",))

    def test_a_number_sign_behind_a_space_or_a_word(self):
        for line in (" #", " # field f 2 0,1", "  #", "field # 2 0,1", "order f 1 #", "order f 1#", "order# f 1"):
            self.check_none(line)


class TestSpaces(SheetCase):
    def test_ahead_between_and_behind(self):
        for line, command in EXAMPLES:
            for wide in (" " + line, line + " ", "   " + line + "   ", line.replace(" ", "  "),
                         line.replace(" ", "     ")):
                self.assertEqual(read_line(wide), command)

    def test_spaces_within_words(self):
        for line in ("field f 3 1, 0,1", "factor f 1 ,2", "order f 1 0", "or der f 1", "order f f 1"):
            self.check_none(line)


class TestLengths(SheetCase):
    def test_2000_and_2001_characters(self):
        for line, command in (*EXAMPLES, ("", ("empty",)), ("#", ("empty",))):
            self.assertEqual(read_line(line + " " * (2000 - len(line))), command)
            self.check_none(line + " " * (2001 - len(line)))
        self.check_none("#" * 2001)
        self.check_none(" " * 2001)
        self.check_none("#" * 10**6)


class TestCharacters(SheetCase):
    def test_every_character_behind_a_number_sign(self):
        for number in range(0x250):
            line = "#" + chr(number)
            if 32 <= number <= 126 and number != 37:
                self.assertEqual(read_line(line), ("empty",))
            else:
                self.check_none(line)

    def test_the_percent_sign(self):
        for line in ("%", "#%", " %", "order f 1%", "order f 1 %", "# 10 % 3", "%#"):
            self.check_none(line)

    def test_characters_that_no_line_has(self):
        for sign in ("\t", "\n", "\r", "\x00", "\x1f", "\x7f", "\x0b", "\x0c", "\x85", "\xa0", "\u00e9", "\u2028",
                     "\u20ac", "\ud800", "\U0001f600"):
            for line in (sign, "#" + sign, " " + sign, "order f 1" + sign, "order" + sign + "f 1", sign + "order f 1"):
                self.check_none(line)

    def test_digits_and_letters_that_are_no_ascii(self):
        for line in ("order f \u0661", "order f \u00b2", "order f \uff11", "order f \u0967", "order f 1\u0661",
                     "order \u0444 1", "order \u00e4 1", "factor f \u0661,1", "field \uff46 2 0,1"):
            self.check_none(line)


class TestOtherValues(SheetCase):
    def test_values_that_are_no_strings(self):
        values = (*[value for value in ODD_VALUES if not isinstance(value, str)], F4, Recurrence(F4, ()),
                  ("order f 1",), ["order", "f", "1"], b"order f 1", ("order", "f", 1))
        for value in values:
            self.check_none(value)


class TestRowText(unittest.TestCase):
    def test_examples(self):
        self.assertEqual(row_text([]), "")
        self.assertEqual(row_text(()), "")
        self.assertEqual(row_text((0,)), "0")
        self.assertEqual(row_text([1, 20, 300]), "1,20,300")
        self.assertEqual(row_text((7,) * 40), ",".join(["7"] * 40))

    def test_it_is_read_back(self):
        for row in ((0,), (9999,), (1, 0, 2), tuple(range(30))):
            self.assertEqual(read_line("factor f " + row_text(row)), ("factor", "f", row))

    def test_the_list_stays(self):
        numbers = [3, 1, 2]
        self.assertEqual(row_text(numbers), "3,1,2")
        self.assertEqual(numbers, [3, 1, 2])


if __name__ == "__main__":
    unittest.main()

"""Point 13: words of letters, and texts written as numbers."""

import itertools
import random
import re
import unittest

from settledlines.errors import BadSource, BadText
from settledlines.strings import read_text, read_words, settled_part, show_text, typeset
from support import ANY_VALUES, all_texts, caught, grown, is_text, lines_between, random_words, settled_words_by

GREATEST = 10 ** 9
MOST = 300
NO_STRINGS = [value for value in ANY_VALUES if not isinstance(value, str)]
CHARACTERS = [chr(number) for number in range(32, 127)] + ["\n"]


def wrong_place(string):
    """Return None if the string is a source, otherwise the position of its error."""
    if re.fullmatch("([a-z]+( [a-z]+)*)?", string):
        return None
    for at in range(len(string)):
        # Ahead of a word that is begun, all words have a blank behind them.
        if not re.fullmatch("([a-z]+ )*[a-z]*", string[:at + 1]):
            return at
    return len(string)


def source_of(text):
    """Return a source whose words have these lengths, and no two of them are the same."""
    letters = "abcdefghijklmnopqrstuvwxyz"
    return " ".join("".join(letters[(at + step) % 26] for step in range(word)) for at, word in enumerate(text))


def printed(source, lines):
    """Return the lines, whose words have these lengths, as they are printed."""
    words = iter(source.split(" "))
    return "\n".join(" ".join(next(words) for _ in line) for line in lines)


class SourceCase(unittest.TestCase):
    def check_bad_source(self, position, call, *arguments):
        error = caught(call, *arguments)
        self.assertIs(type(error), BadSource)
        self.assertEqual([type(error.position), error.position], [int, position])


class ReadWords(SourceCase):
    def check(self, string):
        position = wrong_place(string)
        if position is None:
            words = read_words(string)
            self.assertIs(type(words), tuple)
            self.assertEqual(words, tuple(string.split()))
            self.assertEqual(" ".join(words), string)
        else:
            self.check_bad_source(position, read_words, string)

    def test_sources(self):
        for source, words in [("", ()), ("a", ("a",)), ("to be or not", ("to", "be", "or", "not")), ("z a", ("z", "a")),
                              ("abcdefghijklmnopqrstuvwxyz", ("abcdefghijklmnopqrstuvwxyz",))]:
            self.assertEqual(read_words(source), words)
            self.assertEqual(read_words(source=source), words)

    def test_all_short_strings(self):
        for many in range(7):
            for letters in itertools.product("az {", repeat=many):
                self.check("".join(letters))

    def test_another_character_at_each_place(self):
        for source in ("a", "to be", "to be or not", "x y zz"):
            for at in range(len(source)):
                for character in CHARACTERS:
                    self.check(source[:at] + character + source[at + 1:])
            for at in range(len(source) + 1):
                for character in CHARACTERS:
                    self.check(source[:at] + character + source[at:])

    def test_every_character_alone(self):
        for character in CHARACTERS:
            self.check(character)
            self.check("b" + character)
            self.check("b" + character + "b")

    def test_positions(self):
        for string, position in [("to  be", 3), ("to be ", 6), (" ", 0), (" a", 0), ("a ", 2), ("a  ", 2), ("A", 0),
                                 ("aB", 1), ("a b\n", 3), ("a\n", 1), ("a1", 1), ("-", 0), ("a `", 2), ("a {", 2)]:
            self.check_bad_source(position, read_words, string)

    def test_values_that_are_no_strings(self):
        for value in NO_STRINGS:
            self.check_bad_source(0, read_words, value)

    def test_long_strings(self):
        source = "a " * 9999 + "bc"
        self.assertEqual(len(source), 20000)
        self.assertEqual(read_words(source), ("a",) * 9999 + ("bc",))
        self.assertEqual(read_words("x" * 20000), ("x" * 20000,))
        self.check_bad_source(20000, read_words, "a " * 10000)
        self.check_bad_source(19999, read_words, source[:-1] + "-")
        self.check_bad_source(10000, read_words, source[:10000] + " " + source[10001:])


class Printed(SourceCase):
    def test_small_widths(self):
        for width, most in [(1, 6), (2, 6), (3, 5), (4, 4), (5, 4)]:
            for text in all_texts(width, most):
                source, laid_out = source_of(text), grown(width, text)
                self.assertEqual(typeset(width, source), printed(source, lines_between(text, laid_out.best())))
                self.assertEqual(settled_part(width, source), printed(source, settled_words_by(laid_out, 2)))

    def test_random_sources(self):
        chance = random.Random(141)
        for _ in range(60):
            width = chance.randint(5, 10)
            text = random_words(chance, width, chance.randint(0, 30))
            source, laid_out = source_of(text), grown(width, text)
            self.assertEqual(typeset(width=width, source=source), printed(source, lines_between(text, laid_out.best())))
            self.assertEqual(settled_part(width=width, source=source), printed(source, settled_words_by(laid_out, 2)))

    def test_the_empty_source(self):
        for width in (1, 5, GREATEST):
            self.assertEqual([typeset(width, ""), settled_part(width, "")], ["", ""])

    def test_nothing_and_all_settled(self):
        self.assertEqual([typeset(5, "to be"), settled_part(5, "to be")], ["to be", ""])
        self.assertEqual([typeset(5, "to be three"), settled_part(5, "to be three")], ["to be\nthree", "to be\nthree"])
        self.assertEqual([typeset(6, "the or no"), settled_part(6, "the or no")], ["the or\nno", ""])

    def test_wide_lines(self):
        source = "a " * 299 + "b"
        self.assertEqual([typeset(GREATEST, source), settled_part(GREATEST, source)], [source, ""])
        self.assertEqual(typeset(599, source), source)
        self.assertEqual(typeset(1, source), source.replace(" ", "\n"))

    def test_words_longer_than_the_width(self):
        for width, source, text in [(1, "to be", (2, 2)), (4, "a three", (1, 5)), (4, "three a", (5, 1)),
                                    (19999, "x" * 20000, (20000,)), (5, "to be orchid or not", (2, 2, 6, 2, 3))]:
            for call in (typeset, settled_part):
                error = caught(call, width, source)
                self.assertEqual([type(error), type(error.value), error.value], [BadText, tuple, text])
                self.assertIsNone(caught(call, max(text), source))

    def test_number_of_words(self):
        for call in (typeset, settled_part):
            for many in (299, MOST):
                self.assertIsNone(caught(call, 5, " ".join(["ab"] * many)))
            for many in (MOST + 1, 1000):
                error = caught(call, 5, " ".join(["ab"] * many))
                self.assertEqual([type(error), error.value], [BadText, (2,) * many])

    def test_no_sources(self):
        for call in (typeset, settled_part):
            for value in NO_STRINGS:
                self.check_bad_source(0, call, 5, value)
            # Also if a word is too long, or if there are too many.
            for string, position in [("to  be", 3), ("to be ", 6), ("orchids To", 8), ("a " * 301, 602)]:
                self.check_bad_source(position, call, 5, string)


class WrittenTexts(SourceCase):
    def test_there_and_back(self):
        for width, most in [(1, 6), (2, 5), (12, 2)]:
            for text in all_texts(width, most):
                shown = show_text(text)
                self.assertEqual(shown, " ".join(map(str, text)) if text else "-")
                self.assertEqual(read_text(width, shown), text)
                self.assertEqual(read_text(width=width, source=show_text(text=text)), text)

    def test_long_texts_and_long_numbers(self):
        chance = random.Random(142)
        for many in (1, 299, MOST):
            for width in (9, 10, 123456, GREATEST - 1, GREATEST):
                text = random_words(chance, width, many - 1) + (width,)
                self.assertEqual(read_text(width, show_text(text)), text)

    def test_kinds(self):
        self.assertEqual([type(word) for word in read_text(5, "1 5")], [int, int])
        self.assertIs(type(read_text(5, "-")), tuple)
        self.assertIs(type(show_text((1,))), str)

    def test_the_empty_text(self):
        self.assertEqual([show_text(()), read_text(5, "-"), read_text(GREATEST, "-")], ["-", (), ()])
        for string in ("", " ", "--", "- ", " -", "- -", "-1", "- 1", "1 -", "1-", "-\n"):
            self.check_bad_source(0, read_text, 5, string)

    def test_numbers(self):
        for string, text in [("1", (1,)), ("10", (10,)), ("9 90 900", (9, 90, 900)), ("1000000000", (GREATEST,)),
                             ("999999999 1", (GREATEST - 1, 1))]:
            self.assertEqual(read_text(GREATEST, string), text)
        for string in ("0", "00", "01", "1 01", "1 0", "0 1", "1000000001", "9999999999", "01000000000", "10000000000",
                       "00000000001", "12345678901", "1" * 20000, "+1", "-1", "1_0", "1.0", "1e3", "0x1", "a", "1a",
                       "1,2", "1\n2", "1\n", "\n1", "1  2", " 1", "1 ", "(1,)", "1 / 2"):
            self.check_bad_source(0, read_text, GREATEST, string)

    def test_words_at_the_width(self):
        for width in (1, 5, 9, 10, GREATEST - 1):
            self.assertEqual(read_text(width, f"{width} 1 {width}"), (width, 1, width))
            for string in (f"{width + 1}", f"1 {width + 1}", f"{width + 1} 1"):
                self.check_bad_source(0, read_text, width, string)

    def test_number_of_words(self):
        self.assertEqual(read_text(5, " ".join(["5"] * MOST)), (5,) * MOST)
        for many in (MOST + 1, 10000):
            self.check_bad_source(0, read_text, 5, " ".join(["5"] * many))

    def test_values_that_are_no_strings(self):
        for value in NO_STRINGS:
            self.check_bad_source(0, read_text, 5, value)

    def test_another_character_at_each_place(self):
        for source in ("2 2 3", "1", "10 5", "-"):
            for at in range(len(source)):
                for character in CHARACTERS:
                    self.check_written(source[:at] + character + source[at + 1:])
                    self.check_written(source[:at] + character + source[at:])

    def test_all_short_strings(self):
        for many in range(6):
            for letters in itertools.product("0159 -", repeat=many):
                self.check_written("".join(letters))

    def check_written(self, string):
        parts = string.split(" ")
        text = ()
        if string != "-":
            if not all(re.fullmatch("[1-9][0-9]{0,9}", part) for part in parts):
                self.check_bad_source(0, read_text, 12, string)
                return
            text = tuple(map(int, parts))
        if is_text(12, text):
            self.assertEqual(read_text(12, string), text)
        else:
            self.check_bad_source(0, read_text, 12, string)


if __name__ == "__main__":
    unittest.main()

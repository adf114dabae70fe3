"""Point 5: widths, texts and lines."""

import unittest

from settledlines.errors import TooLong
from settledlines.words import gap, is_text, is_width, last_end, line_length
from support import ANY_VALUES, INTEGERS, OTHER_VALUES, TUPLES, all_texts, nested, written

GREATEST = 10 ** 9


class IsWidth(unittest.TestCase):
    def test_integers(self):
        for value in INTEGERS:
            self.assertIs(is_width(value), 1 <= value <= GREATEST)

    def test_limits(self):
        self.assertIs(is_width(0), False)
        self.assertIs(is_width(1), True)
        self.assertIs(is_width(GREATEST), True)
        self.assertIs(is_width(GREATEST + 1), False)

    def test_other_values(self):
        for value in OTHER_VALUES + TUPLES:
            self.assertIs(is_width(value), False)


class IsText(unittest.TestCase):
    def test_other_values(self):
        for value in OTHER_VALUES + INTEGERS:
            for width in (1, 3, GREATEST):
                self.assertIs(is_text(width, value), False)

    def test_tuples_of_anything(self):
        good = {1: [(), (1,)], 3: [(), (1,), (1, 2), (2, 1)], GREATEST: [(), (1,), (1, 2), (2, 1)]}
        for width, texts in good.items():
            for value in TUPLES:
                # (True,) == (1,), so the text is looked for by how it is written.
                expected = repr(value) in [repr(text) for text in texts]
                self.assertIs(is_text(width, value), expected, value)

    def test_one_wrong_word(self):
        wrong = [value for value in ANY_VALUES if not (value in (1, 2, 3) and type(value) is int)]
        for value in wrong:
            for at in range(3):
                text = [1, 2, 3]
                text[at] = value
                self.assertIs(is_text(3, tuple(text)), False)

    def test_number_of_words(self):
        for many, expected in [(0, True), (1, True), (299, True), (300, True), (301, False), (1000, False)]:
            for width, word in [(1, 1), (5, 5), (GREATEST, GREATEST)]:
                self.assertIs(is_text(width, (word,) * many), expected)

    def test_words_at_the_limits(self):
        for width in (1, 2, 60, GREATEST):
            for word, expected in [(-1, False), (0, False), (1, True), (width, True), (width + 1, False)]:
                self.assertIs(is_text(width, (word,)), expected)
                self.assertIs(is_text(width, (1,) * 299 + (word,)), expected)
                self.assertIs(is_text(width, (word,) + (1,) * 299), expected)

    def test_booleans_among_the_words(self):
        for value in (True, False):
            self.assertIs(is_text(5, (value,)), False)
            self.assertIs(is_text(5, (1, value, 2)), False)
            self.assertIs(is_text(1, (1,) * 299 + (value,)), False)

    def test_list_of_words(self):
        self.assertIs(is_text(5, [1, 2]), False)
        self.assertIs(is_text(5, nested(30, lambda value: (value,))), False)


class Lines(unittest.TestCase):
    def test_all_lines_of_small_texts(self):
        for text in all_texts(3, 5):
            for begin in range(len(text)):
                for end in range(begin + 1, len(text) + 1):
                    length = len(written(text[begin:end]))
                    self.assertEqual(line_length(text, begin, end), length)
                    self.check_gaps(text, begin, end, length)

    def check_gaps(self, text, begin, end, length):
        for width in range(max(length, 3), length + 4):
            self.assertEqual(gap(width, text, begin, end), width - length)
        for width in range(3, length):
            with self.assertRaises(TooLong) as caught:
                gap(width, text, begin, end)
            self.assertEqual(caught.exception.length, length)

    def test_last_end_of_small_texts(self):
        for width in range(3, 9):
            for text in all_texts(3, 5):
                for begin in range(len(text)):
                    fitting = [end for end in range(begin + 1, len(text) + 1)
                               if len(written(text[begin:end])) <= width]
                    self.assertEqual(last_end(width, text, begin), max(fitting))

    def test_one_word(self):
        for width in (1, 7, GREATEST):
            for word in {1, width}:
                self.assertEqual(line_length((word,), 0, 1), word)
                self.assertEqual(gap(width, (word,), 0, 1), width - word)
                self.assertEqual(last_end(width, (word,), 0), 1)

    def test_exact_and_too_long_by_one(self):
        half = GREATEST // 2
        for width, first, second in [(3, 1, 1), (5, 2, 2), (9, 1, 7), (GREATEST, half - 1, half)]:
            self.assertEqual(line_length((first, second), 0, 2), width)
            self.assertEqual(gap(width, (first, second), 0, 2), 0)
            self.assertEqual(last_end(width, (first, second), 0), 2)
            for text in [(first + 1, second), (first, second + 1)]:
                with self.assertRaises(TooLong) as caught:
                    gap(width, text, 0, 2)
                self.assertEqual(caught.exception.length, width + 1)
                self.assertEqual(last_end(width, text, 0), 1)
                self.assertEqual(last_end(width, text, 1), 2)

    def test_long_lines(self):
        text = (1,) * 300
        self.assertEqual(line_length(text, 0, 300), 599)
        self.assertEqual(gap(599, text, 0, 300), 0)
        self.assertEqual([last_end(599, text, 0), last_end(598, text, 0), last_end(598, text, 1)], [300, 299, 300])
        self.assertEqual([last_end(1, text, 0), last_end(1, text, 299), last_end(2, text, 7)], [1, 300, 8])
        with self.assertRaises(TooLong) as caught:
            gap(598, text, 0, 300)
        self.assertEqual(caught.exception.length, 599)


if __name__ == "__main__":
    unittest.main()

"""Point 7: starts and their ranges, also for the greatest width and for texts of 300 words."""

import random
import unittest

from settledlines.starts import closing_starts, open_starts, start_of, starts
from support import all_texts

GREATEST = 10 ** 9
MOST = 300


class RangesCase(unittest.TestCase):
    def check_form(self, width, text, ranges):
        self.assertIs(type(ranges), tuple)
        before, begin = 0, -1
        for each in ranges:
            self.assertIs(type(each), tuple)
            self.assertEqual([type(number) for number in each], [int, int, int])
            low, high, start = each
            self.assertEqual(low, before + 1)
            self.assertLessEqual(low, high)
            # Never earlier for a longer word, and neighbours are different.
            self.assertGreater(start, begin)
            self.assertLessEqual(start, len(text))
            before, begin = high, start
        self.assertEqual(before, width)

    def check(self, width, text):
        closing, opened = closing_starts(width, text), open_starts(width, text)
        self.check_form(width, text, closing)
        self.check_form(width, text, opened)
        # The start never gets earlier, so the ends of a range tell all that is between them.
        for low, high, start in closing:
            for word in {low, high}:
                self.assertEqual(start_of(width, text, (word, width)), start, (width, text, word))
        for low, high, start in opened:
            for word in {low, high}:
                self.assertEqual(start_of(width, text, (word,)), start, (width, text, word))
        self.assertEqual(starts(width, text), tuple(sorted({start for _, _, start in closing + opened})))
        return closing, opened


class Ranges(RangesCase):
    def test_small(self):
        for width, most in [(1, 8), (2, 7), (3, 6), (4, 5), (5, 4), (6, 4)]:
            for text in all_texts(width, most):
                self.check_form(width, text, closing_starts(width, text))
                self.check_form(width, text, open_starts(width, text))

    def test_greatest_width(self):
        chance = random.Random(91)
        for parts in (1, 2, 3, 5, 8, 20, 60, 300):
            for many in (1, 2, 7, 40):
                longest = GREATEST // parts
                self.check(GREATEST, tuple(chance.randint(1, longest) for _ in range(many)))
                self.check(GREATEST, tuple(chance.randint(longest // 2, longest) for _ in range(many)))

    def test_three_hundred_words(self):
        chance = random.Random(92)
        for width in (1, 2, 7, 60, 1000, GREATEST):
            for longest in {width, (width + 3) // 4, (width + 39) // 40}:
                self.check(width, tuple(chance.randint(1, longest) for _ in range(MOST)))

    def test_the_same_word(self):
        for width, word in [(GREATEST, 1), (GREATEST, GREATEST), (GREATEST, 3333332), (599, 1), (60, 3)]:
            self.check(width, (word,) * MOST)

    def test_many_ranges(self):
        # Each word is a hundredth of the width, so very many beginnings have room behind them.
        chance = random.Random(93)
        text = tuple(chance.randint(GREATEST // 101, GREATEST // 99) for _ in range(MOST))
        closing, _ = self.check(GREATEST, text)
        self.assertGreater(len(closing), 20)

    def test_one_word_at_the_greatest_width(self):
        half = GREATEST // 2
        for word in (1, 2, half - 1, half, GREATEST - 2, GREATEST - 1, GREATEST):
            self.check(GREATEST, (word,))
        self.assertEqual(open_starts(GREATEST, (1,)), ((1, GREATEST - 2, 0), (GREATEST - 1, GREATEST, 1)))
        self.assertEqual(open_starts(GREATEST, (GREATEST - 2,)), ((1, 1, 0), (2, GREATEST, 1)))
        self.assertEqual(open_starts(GREATEST, (GREATEST - 1,)), ((1, GREATEST, 1),))

    def test_empty_text(self):
        for width in (1, 2, 20, GREATEST):
            self.assertEqual([closing_starts(width, ()), open_starts(width, ())], [((1, width, 0),)] * 2)
            self.assertEqual(starts(width, ()), (0,))

    def test_width_one(self):
        for many in range(1, 5):
            self.assertEqual([closing_starts(1, (1,) * many), open_starts(1, (1,) * many)], [((1, 1, many),)] * 2)
            self.assertEqual(starts(1, (1,) * many), (many,))


class StartOf(unittest.TestCase):
    def test_empty_text(self):
        for future in [(1,), (1, 5), (5, 5, 5), (2,) * MOST]:
            self.assertEqual(start_of(5, (), future), 0)

    def test_long_futures(self):
        for many in (1, 2, 299, MOST, 1000):
            self.assertEqual(start_of(5, (2, 2), (5,) * many), 2)
            self.assertEqual(start_of(5, (2,) * MOST, (2,) * many), MOST)
            self.assertEqual(start_of(5, (2,) * (MOST - 1), (2,) * many), MOST - 2)

    def test_all_on_one_line(self):
        self.assertEqual(start_of(GREATEST, (1,) * MOST, (1,) * MOST), 0)
        self.assertEqual(start_of(GREATEST, (1,) * MOST, (GREATEST,)), MOST)
        self.assertEqual(start_of(GREATEST, (1,) * MOST, (1, GREATEST)), 0)

    def test_the_latest_of_two_at_the_same_cost(self):
        # With 150 words on the first line the gaps are 300 and 298, with 151 they are 298 and 300.
        self.assertEqual(start_of(599, (1,) * MOST, (1, 599)), 151)
        self.assertEqual(closing_starts(599, (1,) * MOST)[0][2], 151)


if __name__ == "__main__":
    unittest.main()

"""Point 9: the next words that settle a place."""

import random
import unittest

from settledlines.errors import BadPlace
from settledlines.settling import least_settling, settling_words
from settledlines.states import state_of
from support import ANY_VALUES

MOST = 300


class Places(unittest.TestCase):
    def test_values_of_any_kind(self):
        for text in [(), (2,), (2, 2, 3)]:
            for value in ANY_VALUES:
                for function in (settling_words, least_settling):
                    if type(value) is int and 1 <= value <= len(text):
                        function(5, text, value)
                        continue
                    with self.assertRaises(BadPlace) as caught:
                        function(5, text, value)
                    self.assertIs(caught.exception.value, value)

    def test_the_place_of_the_next_word_is_none(self):
        for text in [(2,), (2, 2), (5,) * MOST]:
            for function in (settling_words, least_settling):
                with self.assertRaises(BadPlace) as caught:
                    function(5, text, len(text) + 1)
                self.assertEqual(caught.exception.value, len(text) + 1)


class Settling(unittest.TestCase):
    def check(self, width, text, place):
        ranges = settling_words(width, text, place)
        self.assertIs(type(ranges), tuple)
        words = []
        for each in ranges:
            self.assertEqual([type(each), type(each[0]), type(each[1]), len(each)], [tuple, int, int, 2])
            low, high = each
            self.assertLessEqual(low, high)
            # Between neighbours there is at least one other word.
            self.assertGreater(low, words[-1] + 1 if words else 0)
            words.extend(range(low, high + 1))
        settling = [word for word in range(1, width + 1) if state_of(width, text + (word,), place) != "sometimes"]
        self.assertEqual(words, settling)
        self.assertEqual(words[-1], width)
        self.assertEqual(least_settling(width, text, place), settling[0])
        return ranges

    def test_middle_widths(self):
        chance = random.Random(101)
        for _ in range(60):
            width = chance.randint(1, 25)
            longest = chance.randint(1, width)
            text = tuple(chance.randint(1, longest) for _ in range(chance.randint(1, 15)))
            for place in range(1, len(text) + 1):
                self.check(width, text, place)

    def test_width_sixty_and_three_hundred_words(self):
        chance = random.Random(102)
        for longest in (60, 20, 6, 2):
            text = tuple(chance.randint(1, longest) for _ in range(MOST))
            for place in (1, MOST // 2, MOST - 2, MOST):
                self.check(60, text, place)

    def test_several_ranges(self):
        found = [self.check(8, (1, 2, 3), 2), self.check(8, (3, 2, 3), 1), self.check(12, (1, 3, 2, 4), 3)]
        self.assertGreaterEqual(max(len(ranges) for ranges in found), 2, found)

    def test_settled_already(self):
        for place in (1, 2):
            self.assertEqual(settling_words(5, (2, 2, 5), place), ((1, 5),))
            self.assertEqual(least_settling(5, (2, 2, 5), place), 1)

    def test_width_one(self):
        self.assertEqual([settling_words(1, (1, 1), place) for place in (1, 2)], [((1, 1),)] * 2)
        self.assertEqual(least_settling(1, (1,) * MOST, MOST), 1)


if __name__ == "__main__":
    unittest.main()

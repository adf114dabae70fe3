"""Point 10: held words, and patterns that are repeated without end."""

import itertools
import random
import unittest

from settledlines.repeated import held_words, lag
from settledlines.states import settled_words
from support import all_texts, grown, left_ends, settled_by


class HeldWords(unittest.TestCase):
    def test_by_the_definition(self):
        for width, most in [(1, 7), (2, 7), (3, 5), (4, 4)]:
            for text in all_texts(width, most):
                lines = settled_by(left_ends(grown(width, text), 3))
                self.assertEqual(held_words(width, text), len(text) - max((end for _, end in lines), default=0))

    def test_is_what_is_not_settled(self):
        chance = random.Random(110)
        for _ in range(200):
            width = chance.randint(1, 20)
            text = tuple(chance.randint(1, width) for _ in range(chance.randint(0, 60)))
            self.assertEqual(held_words(width, text), len(text) - settled_words(width, text))

    def test_very_many_words(self):
        self.assertEqual(held_words(5, (2,) * 20000), 2)
        self.assertEqual(held_words(5, (2,) * 20001), 1)
        self.assertEqual(held_words(6, (3,) + (2,) * 20000), 20001)
        self.assertEqual(held_words(6, (6,) * 20000), 0)
        self.assertEqual(held_words(20, (1,) * 20000 + (20,)), 0)


class LagCase(unittest.TestCase):
    def check(self, width, start, pattern, times):
        """Hold lag against the held words; the answer must show within so many times the pattern."""
        found = lag(width, start, pattern)
        held = [held_words(width, start + pattern * many) for many in range(times + 1)]
        if found is None:
            # From some time on no more line is settled.
            self.assertEqual(held[-1] - held[times // 2], len(pattern) * (times - times // 2), (width, start, pattern))
        else:
            self.assertEqual(max(held[times // 2:]), found, (width, start, pattern))
            # The greatest number comes back.
            self.assertEqual(max(held[times * 3 // 4:]), found, (width, start, pattern))
        return found


class Lag(LagCase):
    def test_small_widths(self):
        answers = set()
        for width, most, longest in [(1, 2, 3), (2, 2, 4), (3, 2, 3), (4, 1, 3), (5, 1, 2), (6, 1, 2)]:
            for start in all_texts(width, most):
                for many in range(1, longest + 1):
                    for pattern in itertools.product(range(1, width + 1), repeat=many):
                        answers.add(self.check(width, start, pattern, 40))
        self.assertTrue({None, 0, 1, 2, 4} <= answers, answers)

    def test_greater_widths(self):
        chance = random.Random(111)
        for _ in range(60):
            width = chance.randint(5, 12)
            longest = chance.randint(1, width)
            start = tuple(chance.randint(1, longest) for _ in range(chance.randint(0, 20)))
            pattern = tuple(chance.randint(1, longest) for _ in range(chance.randint(1, 6)))
            self.check(width, start, pattern, 80)

    def test_settling_takes_long(self):
        # The lines repeat only after some hundred words.
        for width, start, pattern in [
                (20, (2, 2, 1, 2, 2, 2, 2, 1, 1), (2, 1, 2, 1, 1, 2)), (20, (2, 5, 5, 1), (2, 5, 3, 4, 5, 4)),
                (20, (3, 11, 11, 10, 1, 10, 5, 10), (2, 2, 11, 6, 7, 2)), (17, (4, 1, 3), (1, 3, 4, 4, 2, 4))]:
            found = lag(width, start, pattern)
            held = [held_words(width, start + pattern * many) for many in range(300, 320)]
            self.assertEqual(max(held), found)

    def test_words_of_the_start_that_look_alike(self):
        # Behind start the costs are those behind the first pattern, but the lines have other room.
        for width, start, pattern, expected in [
                (5, (2, 3, 3), (1, 2, 2, 1), 2), (6, (3, 3), (2, 1, 2, 3, 1), 6), (7, (4, 1, 3), (2, 3, 3, 1), 2),
                (8, (2, 2, 6, 1), (2, 1, 4, 3, 1, 5), 1), (7, (4, 1, 2, 2, 3), (1, 1, 2, 4, 1), 2),
                (9, (3, 2, 5, 3, 4, 1, 2, 2, 5, 1, 3, 5, 2, 3, 5, 1), (3,), None)]:
            self.assertEqual(self.check(width, start, pattern, 80), expected)

    def test_h_is_taken_after_whole_patterns_only(self):
        # Behind a word 6 nothing is held; ahead of it words are.
        self.assertEqual(lag(6, (), (1, 6)), 0)
        self.assertEqual(held_words(6, (1, 6, 1)), 1)
        self.assertEqual(lag(6, (1,), (6, 1)), 1)

    def test_the_start_is_forgotten_or_not(self):
        self.assertEqual([lag(6, (), (2,)), lag(6, (3,), (2,)), lag(6, (3, 6), (2,))], [2, None, 2])

    def test_long_start_and_long_pattern(self):
        self.assertEqual(lag(20, (20,) * 20, (20,) * 6), 0)
        self.assertEqual(lag(20, (1,) * 20, (1, 2, 3, 4, 5, 20)), 0)
        self.assertEqual(lag(5, (2,) * 19, (2,) * 6), 1)
        self.assertEqual(lag(1, (1,) * 20, (1,) * 6), 0)


if __name__ == "__main__":
    unittest.main()

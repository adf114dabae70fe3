"""Points 3, 4, 7, 8 and 9, held against the definitions by going through all short futures."""

import itertools
import random
import unittest

from settledlines.layouts import best_layout
from settledlines.settling import least_settling, settling_words
from settledlines.starts import closing_starts, open_starts, start_of, starts
from settledlines.states import settled_lines, settled_words, shows_open, state_of, states, two_futures
from support import Grown, all_layouts, all_texts, grown, left_ends, settled_by, squares, states_by


def start_in(text, ends):
    """Return the greatest of the ends that is in the text."""
    return max((end for end in ends if end <= len(text)), default=0)


def all_grown(width, most):
    """Yield all texts of at most so many words, laid out."""
    waiting = [Grown(width)]
    while waiting:
        laid_out = waiting.pop()
        yield laid_out
        if len(laid_out.text) < most:
            waiting.extend(laid_out.then(word) for word in range(1, width + 1))


def random_text(chance, width, most):
    longest = chance.randint(1, width)
    return tuple(chance.randint(1, longest) for _ in range(chance.randint(0, most)))


class FuturesCase(unittest.TestCase):
    def check(self, laid_out, most):
        width, text = laid_out.width, laid_out.text
        ways = left_ends(laid_out, most)
        expected = states_by(ways, len(text))
        self.assertEqual(states(width, text), expected, (width, text))
        self.assertEqual(settled_lines(width, text), settled_by(ways), (width, text))
        self.assertEqual(settled_words(width, text), max((end for _, end in settled_by(ways)), default=0))
        found = sorted({start_in(text, ends) for ends, has_words in ways if has_words})
        self.assertEqual(starts(width, text), tuple(found), (width, text))
        for place in range(1, len(text) + 1):
            self.check_two(width, text, place, ways, expected[place - 1])

    def check_two(self, width, text, place, ways, state):
        two = two_futures(width, text, place)
        if state != "sometimes":
            self.assertIsNone(two, (width, text, place))
            return
        one, other = two
        self.assertEqual(len(one), min(words for (ends, _), words in ways.items() if place in ends))
        self.assertEqual(len(other), min(words for (ends, _), words in ways.items() if place not in ends))
        self.assertIn(place, grown(width, text + one).best())
        self.assertNotIn(place, grown(width, text + other).best())

    def check_ranges(self, laid_out):
        width, text = laid_out.width, laid_out.text
        for behind, ranges in [((), open_starts(width, text)), ((width,), closing_starts(width, text))]:
            expected = []
            for word in range(1, width + 1):
                longer = laid_out.then(word)
                for other in behind:
                    longer = longer.then(other)
                expected.append(start_in(text, longer.best()))
            self.assertEqual([start for low, high, start in ranges for _ in range(low, high + 1)], expected)


class AllShortTexts(FuturesCase):
    def test_futures_of_three_words(self):
        for width in range(1, 5):
            for laid_out in all_grown(width, 7):
                self.check(laid_out, 3)

    def test_ranges(self):
        for width in range(1, 5):
            for laid_out in all_grown(width, 7):
                self.check_ranges(laid_out)

    def test_starts_of_futures(self):
        for width in range(1, 5):
            for laid_out in all_grown(width, 4):
                for future in itertools.product(range(1, width + 1), repeat=2):
                    for words in (future[:1], future):
                        expected = start_in(laid_out.text, grown(width, laid_out.text + words).best())
                        self.assertEqual(start_of(width, laid_out.text, words), expected)

    def test_state_of_and_shows_open(self):
        for width, most in [(1, 5), (2, 4), (3, 3)]:
            pairs = list(itertools.product(all_texts(width, 2), repeat=2))
            for laid_out in all_grown(width, most):
                text = laid_out.text
                expected = states_by(left_ends(laid_out, 3), len(text))
                for place in range(1, len(text) + 1):
                    self.assertEqual(state_of(width, text, place), expected[place - 1])
                    for one, other in pairs:
                        shown = (place in grown(width, text + one).best()
                                 and place not in grown(width, text + other).best())
                        self.assertIs(shows_open(width, text, place, (one, other)), shown)

    def test_settling_words(self):
        for width, most in [(1, 7), (2, 7), (3, 5), (4, 4)]:
            for laid_out in all_grown(width, most):
                after = [states_by(left_ends(laid_out.then(word), 3), len(laid_out.text) + 1)
                         for word in range(1, width + 1)]
                for place in range(1, len(laid_out.text) + 1):
                    self.check_settling(width, laid_out.text, place, [
                        word for word in range(1, width + 1) if after[word - 1][place - 1] != "sometimes"])

    def check_settling(self, width, text, place, expected):
        ranges = settling_words(width, text, place)
        self.assertEqual([word for low, high in ranges for word in range(low, high + 1)], expected)
        for (_, high), (low, _) in zip(ranges, ranges[1:]):
            self.assertGreater(low, high + 1)
        self.assertEqual(least_settling(width, text, place), expected[0])


class TheReference(unittest.TestCase):
    def test_against_all_layouts(self):
        for width, most in [(2, 6), (4, 4), (5, 4)]:
            for text in all_texts(width, most):
                layouts = all_layouts(width, text)
                costs = [sum(squares(width, text, ends)[:-1]) for ends in layouts]
                self.assertEqual(grown(width, text).best(), layouts[costs.index(min(costs))])


class RandomTexts(FuturesCase):
    def test_greater_widths(self):
        chance = random.Random(71)
        for _ in range(250):
            width = chance.randint(5, 12)
            laid_out = grown(width, random_text(chance, width, 12))
            self.check(laid_out, 2)
            self.check_ranges(laid_out)

    def test_ranges_for_greater_widths(self):
        chance = random.Random(72)
        for _ in range(250):
            width = chance.randint(5, 60)
            self.check_ranges(grown(width, random_text(chance, width, 40)))

    def test_long_futures(self):
        chance = random.Random(73)
        for _ in range(250):
            width = chance.randint(2, 14)
            text = random_text(chance, width, 30)
            told, found, lines = states(width, text), starts(width, text), settled_lines(width, text)
            for _ in range(30):
                future = random_text(chance, width, 30)
                ends = grown(width, text + future).best()
                for place in range(1, len(text) + 1):
                    self.assertIn(told[place - 1], ("sometimes", "always" if place in ends else "never"))
                self.assertEqual(lines, tuple(zip((0,) + ends, ends))[:len(lines)])
                if future:
                    self.assertIn(start_in(text, ends), found)
                    self.assertEqual(start_of(width, text, future), start_in(text, ends))


class Guarantees(unittest.TestCase):
    def cases(self, seed, many):
        chance = random.Random(seed)
        for _ in range(many):
            width = chance.randint(1, 20)
            yield width, random_text(chance, width, 40)

    def test_settled_lines_are_first_and_stay(self):
        for width, text in self.cases(81, 150):
            before = ()
            for many in range(len(text) + 1):
                lines = settled_lines(width, text[:many])
                ends = best_layout(width, text[:many])
                self.assertEqual(lines, tuple(zip((0,) + ends, ends))[:len(lines)])
                self.assertEqual(lines[:len(before)], before)
                before = lines

    def test_what_is_behind_is_a_text_of_its_own(self):
        for width, text in self.cases(82, 300):
            many = settled_words(width, text)
            for future in [(), (1,), (width,), (1, width), (1,) * 30]:
                rest = [many + end for end in best_layout(width, text[many:] + future)]
                ends = best_layout(width, text + future)
                self.assertEqual(list(ends[len(ends) - len(rest):]), rest)
                self.assertEqual(settled_words(width, text[many:]), 0)

    def test_a_word_as_long_as_the_width_settles_all(self):
        for width, text in self.cases(83, 300):
            longer = text + (width,)
            self.assertNotIn("sometimes", states(width, longer))
            self.assertEqual(settled_words(width, longer), len(longer))
            self.assertEqual(starts(width, longer), (len(longer),))


if __name__ == "__main__":
    unittest.main()

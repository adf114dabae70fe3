"""Point 8: states, settled lines and the futures that show a place."""

import itertools
import random
import unittest

from settledlines.errors import BadPlace
from settledlines.layouts import best_layout
from settledlines.states import (settled_lines, settled_words, shows_open, state_of, states, two_futures)
from support import ANY_VALUES, all_texts, nested

GREATEST = 10 ** 9
MOST = 300
TWOS = (2, 2)


def is_place(text, value):
    return type(value) is int and 1 <= value <= len(text)


class Places(unittest.TestCase):
    def check(self, text, value, call):
        if is_place(text, value):
            call()
            return
        with self.assertRaises(BadPlace) as caught:
            call()
        self.assertIs(caught.exception.value, value)

    def test_values_of_any_kind(self):
        for text in [(), (2,), TWOS, (2, 2, 3)]:
            for value in ANY_VALUES:
                self.check(text, value, lambda: state_of(5, text, value))
                self.check(text, value, lambda: two_futures(5, text, value))
                for shown in (((), ()), None, [1], nested(30, lambda inner: [inner])):
                    self.check(text, value, lambda: shows_open(5, text, value, shown))

    def test_places_of_long_texts(self):
        text = (2,) * MOST
        for value in (0, -1, -MOST, MOST + 1, True, "1", (1,)):
            with self.assertRaises(BadPlace) as caught:
                state_of(5, text, value)
            self.assertIs(caught.exception.value, value)
        self.assertEqual([state_of(5, text, place) for place in (1, 2, MOST - 3, MOST - 2, MOST - 1)],
                         ["never", "always", "never", "always", "sometimes"])


class States(unittest.TestCase):
    def test_state_of_is_the_one_in_states(self):
        for width, most in [(1, 4), (2, 4), (3, 4), (5, 3)]:
            for text in all_texts(width, most):
                told = states(width, text)
                self.assertIs(type(told), tuple)
                self.assertEqual(told, tuple(state_of(width, text, place) for place in range(1, len(text) + 1)))
                self.assertTrue(all(word in ("always", "never", "sometimes") for word in told))

    def test_empty_text(self):
        for width in (1, 5, GREATEST):
            self.assertEqual([states(width, ()), settled_lines(width, ()), settled_words(width, ())], [(), (), 0])

    def test_one_line_holds_all(self):
        text = (1,) * MOST
        self.assertEqual(states(GREATEST, text), ("never",) * (MOST - 1) + ("sometimes",))
        self.assertEqual(settled_lines(GREATEST, text), ())
        # Also a line without a gap is not settled if a line behind it would be short.
        self.assertEqual(settled_lines(599, text), ())
        self.assertIs(shows_open(599, text, 151, ((1, 599), ())), True)
        self.assertEqual(settled_lines(599, text + (599,)), ((0, MOST), (MOST, MOST + 1)))

    def test_greatest_words(self):
        text = (GREATEST,) * MOST
        self.assertEqual(states(GREATEST, text), ("always",) * MOST)
        self.assertEqual(settled_lines(GREATEST, text), tuple((at, at + 1) for at in range(MOST)))
        self.assertEqual(settled_words(GREATEST, text), MOST)

    def test_scaled_to_the_greatest_width(self):
        # Where words as long as a multiple are put behind, the same places are settled at the least.
        chance = random.Random(95)
        for _ in range(40):
            width = chance.randint(3, 9)
            text = tuple(chance.randint(1, width) for _ in range(chance.randint(1, 60)))
            factor = GREATEST // (width + 1)
            wide = (width + 1) * factor - 1
            told = states(wide, tuple((word + 1) * factor - 1 for word in text))
            for place in range(1, len(text) + 1):
                self.assertIn(told[place - 1], ("sometimes", state_of(width, text, place)))

    def test_settled_lines_of_long_texts(self):
        chance = random.Random(96)
        for width in (5, 20, 1000, GREATEST):
            text = tuple(chance.randint(1, (width + 2) // 3) for _ in range(MOST))
            lines, told = settled_lines(width, text), states(width, text)
            ends = best_layout(width, text)
            self.assertEqual(lines, tuple(zip((0,) + ends, ends))[:len(lines)])
            self.assertEqual(settled_words(width, text), lines[-1][1] if lines else 0)
            for place in range(1, settled_words(width, text) + 1):
                self.assertEqual(told[place - 1], "always" if place in ends else "never")


class TwoFutures(unittest.TestCase):
    def check(self, width, text):
        told = states(width, text)
        for place in range(1, len(text) + 1):
            two = two_futures(width, text, place)
            if told[place - 1] != "sometimes":
                self.assertIsNone(two)
                continue
            self.assertEqual([type(two), type(two[0]), type(two[1]), len(two)], [tuple, tuple, tuple, 2])
            for future in two:
                self.assertLessEqual(len(future), 2)
                self.assertTrue(all(type(word) is int and 1 <= word <= width for word in future))
            self.assertIs(shows_open(width, text, place, two), True)
            self.assertIs(shows_open(width, text, place, two[::-1]), False)
            # One of the two is the future that changes nothing, which has the fewest words of all.
            self.assertEqual(two[0] == (), place in best_layout(width, text))
            self.assertEqual(two[1] == (), place not in best_layout(width, text))

    def test_small(self):
        for width, most in [(1, 5), (2, 5), (3, 5), (5, 4), (7, 3)]:
            for text in all_texts(width, most):
                self.check(width, text)

    def test_long_texts(self):
        chance = random.Random(97)
        for width in (5, 60, GREATEST):
            for parts in (1, 4, 25):
                longest = max(width // parts, 1)
                self.check(width, tuple(chance.randint(1, longest) for _ in range(MOST)))

    def test_number_of_words(self):
        self.assertEqual([len(future) for future in two_futures(5, TWOS, 1)], [2, 0])
        self.assertEqual([len(future) for future in two_futures(5, TWOS, 2)], [0, 2])
        self.assertEqual([len(future) for future in two_futures(5, (2,), 1)], [0, 1])


class ShowsOpen(unittest.TestCase):
    def test_values_of_any_kind(self):
        for place in (1, 2):
            for value in ANY_VALUES:
                self.assertIs(shows_open(5, TWOS, place, value), False)

    def test_pairs_with_values_of_any_kind(self):
        for value in ANY_VALUES:
            self.assertIs(shows_open(5, TWOS, 1, (value, ())), False)
            self.assertIs(shows_open(5, TWOS, 1, [(1, 5), value]), False)
            self.assertIs(shows_open(5, TWOS, 1, ((1, 5), (), value)), False)
            # Some of the tuples are futures; none of these ends a line at 1.
            is_future = type(value) is tuple and all(type(word) is int and 1 <= word <= 5 for word in value)
            self.assertIs(shows_open(5, TWOS, 1, ((1, 5), value)), is_future, value)

    def test_words_of_any_kind(self):
        for value in ANY_VALUES:
            is_word = type(value) is int and 1 <= value <= 5
            self.assertIs(shows_open(5, TWOS, 1, ((1, 5), (value,))), is_word)
            self.assertIs(shows_open(5, TWOS, 1, ((value, 5), ())), type(value) is int and value == 1)

    def test_lists(self):
        self.assertIs(shows_open(5, TWOS, 1, ((1, 5), ())), True)
        for value in ([(1, 5), ()], ([1, 5], ()), ((1, 5), []), ((True, 5), ()), ((1, 5), (False,))):
            self.assertIs(shows_open(5, TWOS, 1, value), False)

    def test_number_of_words(self):
        for many, expected in [(0, True), (1, True), (299, True), (MOST, True), (MOST + 1, False), (1000, False)]:
            self.assertIs(shows_open(5, TWOS, 2, ((5,) * many, (1, 5))), expected)
            self.assertIs(shows_open(5, TWOS, 1, ((1, 5), (5,) * many)), expected)
            self.assertIs(shows_open(5, TWOS, 1, ((1,) + (5,) * (many - 1), ())), expected and many > 1)

    def test_long_text_and_long_futures(self):
        text = (5,) * (MOST - 2) + TWOS
        self.assertIs(shows_open(5, text, MOST - 1, ((1,) + (5,) * (MOST - 1), (5,) * MOST)), True)
        self.assertIs(shows_open(5, text, MOST - 1, ((1,) + (5,) * MOST, (5,) * MOST)), False)

    def test_both_or_neither(self):
        for one, other in itertools.product([(), (2,), (5,), (2, 5)], repeat=2):
            self.assertIs(shows_open(5, TWOS, 1, (one, other)), False)
            self.assertIs(shows_open(5, TWOS, 2, (one, other)), False)


if __name__ == "__main__":
    unittest.main()

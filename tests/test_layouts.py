"""Point 6: layouts, compared with all layouts of a text, which the tests go through."""

import itertools
import random
import unittest

from settledlines.layouts import (best_cost, best_layout, best_layouts, closed_cost, closed_layout, cost, count_best,
                                  full_cost, is_layout, lines_of)
from support import ANY_VALUES, INTEGERS, OTHER_VALUES, all_layouts, all_texts, squares

# For each width, texts of up to so many words.
SMALL = [(1, 9), (2, 8), (3, 6), (4, 5), (5, 5), (6, 4), (7, 4)]


def small_cases():
    for width, most in SMALL:
        for text in all_texts(width, most):
            yield width, text


def spread_cases():
    """Texts of more words and for greater widths, the same ones in each run."""
    chance = random.Random(6)
    for _ in range(150):
        width = chance.randint(3, 30)
        longest = chance.randint(1, width)
        yield width, tuple(chance.randint(1, longest) for _ in range(chance.randint(6, 10)))


class AgainstAllLayouts(unittest.TestCase):
    def check(self, width, text):
        layouts = all_layouts(width, text)
        full_costs = {ends: sum(squares(width, text, ends)) for ends in layouts}
        costs = {ends: sum(squares(width, text, ends)[:-1]) for ends in layouts}
        for ends in layouts:
            self.assertEqual(cost(width, text, ends), costs[ends])
            self.assertEqual(full_cost(width, text, ends), full_costs[ends])
        best = [ends for ends in layouts if costs[ends] == min(costs.values())]
        closed = [ends for ends in layouts if full_costs[ends] == min(full_costs.values())]
        self.assertEqual(best_layout(width, text), best[0])
        self.assertEqual(closed_layout(width, text), closed[0])
        self.assertEqual(best_cost(width, text), costs[best[0]])
        self.assertEqual(closed_cost(width, text), full_costs[closed[0]])
        self.assertEqual(count_best(width, text), len(best))
        self.assertEqual(list(best_layouts(width, text)), best)

    def test_small(self):
        for width, text in small_cases():
            self.check(width, text)

    def test_spread(self):
        for width, text in spread_cases():
            self.check(width, text)

    def test_equal_words(self):
        for width in range(1, 16):
            for word in range(1, min(width, 3) + 1):
                for many in range(12):
                    self.check(width, (word,) * many)

    def test_many_best(self):
        for width, block in [(5, (3, 1, 3)), (4, (1, 2, 2)), (5, (1, 1, 1, 3)), (6, (1, 1, 1, 1, 1, 6))]:
            for many in range(13):
                self.check(width, (block * many)[:many])

    def test_scaled_to_the_greatest_width(self):
        # Where each word and the width, with a blank added, are multiplied, all gaps are multiplied.
        chance = random.Random(7)
        for _ in range(60):
            width = chance.randint(3, 9)
            text = tuple(chance.randint(1, width) for _ in range(chance.randint(0, 9)))
            factor = 10 ** 9 // (width + 1)
            wide = (width + 1) * factor - 1
            long_text = tuple((word + 1) * factor - 1 for word in text)
            self.assertEqual(list(best_layouts(wide, long_text)), list(best_layouts(width, text)))
            self.assertEqual(closed_layout(wide, long_text), closed_layout(width, text))
            self.assertEqual(best_cost(wide, long_text), best_cost(width, text) * factor ** 2)
            self.assertEqual(closed_cost(wide, long_text), closed_cost(width, text) * factor ** 2)


class EmptyText(unittest.TestCase):
    def test_only_the_empty_layout(self):
        for width in (1, 5, 10 ** 9):
            self.assertEqual([best_layout(width, ()), closed_layout(width, ())], [(), ()])
            self.assertEqual([best_cost(width, ()), closed_cost(width, ())], [0, 0])
            self.assertEqual([cost(width, (), ()), full_cost(width, (), ())], [0, 0])
            self.assertEqual([count_best(width, ()), list(best_layouts(width, ()))], [1, [()]])


class Later(unittest.TestCase):
    def test_ends_are_read_from_the_last_one(self):
        # Read from the first end on, the second and the third layout would change places.
        self.assertEqual(
            list(best_layouts(5, (3, 1, 3, 5, 3, 1, 3, 5))),
            [(2, 3, 4, 6, 7, 8), (1, 3, 4, 6, 7, 8), (2, 3, 4, 5, 7, 8), (1, 3, 4, 5, 7, 8)])


class IsLayout(unittest.TestCase):
    def test_all_tuples_of_small_integers(self):
        for width, most in [(1, 3), (2, 3), (3, 3), (5, 3)]:
            for text in all_texts(width, most):
                layouts = all_layouts(width, text)
                for many in range(len(text) + 2):
                    for value in itertools.product(range(-1, len(text) + 2), repeat=many):
                        self.assertIs(is_layout(width, text, value), value in layouts)

    def test_values_of_any_kind(self):
        for value in OTHER_VALUES + INTEGERS:
            for text in [(), (1,), (1, 1)]:
                self.assertIs(is_layout(5, text, value), False)

    def test_tuples_with_values_of_any_kind(self):
        for value in ANY_VALUES:
            is_one = type(value) is int and value == 1
            is_two = type(value) is int and value == 2
            self.assertIs(is_layout(5, (), (value,)), False)
            self.assertIs(is_layout(5, (1,), (value,)), is_one)
            self.assertIs(is_layout(5, (1, 1), (value,)), is_two)
            self.assertIs(is_layout(5, (1, 1), (1, value)), is_two)
            self.assertIs(is_layout(5, (1, 1), (value, 2)), is_one)

    def test_booleans(self):
        self.assertIs(is_layout(5, (1,), (True,)), False)
        self.assertIs(is_layout(5, (1, 1), (True, 2)), False)
        self.assertIs(is_layout(5, (1, 1), (False, 2)), False)

    def test_empty_text(self):
        self.assertIs(is_layout(5, (), ()), True)
        self.assertIs(is_layout(5, (), (0,)), False)
        self.assertIs(is_layout(5, (1,), ()), False)

    def test_lines_must_fit(self):
        for width in (3, 10 ** 9):
            for text, expected in [((1, width - 2), True), ((1, width - 1), False)]:
                self.assertIs(is_layout(width, text, (2,)), expected)
                self.assertIs(is_layout(width, (1,) + text, (1, 3)), expected)
                self.assertIs(is_layout(width, text + (1,), (2, 3)), expected)

    def test_best_layouts_are_layouts(self):
        for width, text in spread_cases():
            for ends in [closed_layout(width, text)] + list(best_layouts(width, text)):
                self.assertIs(is_layout(width, text, ends), True)
                self.assertIs(is_layout(width, text, list(ends)), False)
                self.assertIs(is_layout(width, text, ends[:-1]), False)
                self.assertIs(is_layout(width, text, ends[:-1] + (len(text) + 1,)), False)
                self.assertIs(is_layout(width, text, ends[::-1]), len(ends) == 1)


class LinesOf(unittest.TestCase):
    def test_lines_of_all_layouts(self):
        for many in range(7):
            for ends in all_layouts(13, (1,) * many):
                lines = lines_of(ends)
                self.assertEqual(tuple(end for _, end in lines), ends)
                self.assertEqual([begin for begin, _ in lines], ([0] + list(ends))[:len(ends)])

    def test_none_one_and_many(self):
        self.assertEqual(lines_of(()), ())
        self.assertEqual(lines_of((4,)), ((0, 4),))
        self.assertEqual(lines_of(tuple(range(1, 301))), tuple((at, at + 1) for at in range(300)))


if __name__ == "__main__":
    unittest.main()

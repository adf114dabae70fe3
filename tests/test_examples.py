"""The examples of points 5 and 6 of the document."""

import unittest

from settledlines.errors import TooLong
from settledlines.layouts import (best_cost, best_layout, best_layouts, closed_cost, closed_layout, cost, count_best,
                                  full_cost, is_layout, lines_of)
from settledlines.words import gap, is_text, is_width, last_end, line_length

SHORT = (2, 2, 3)
TURNED = (3, 2, 2)


class WordsExamples(unittest.TestCase):
    def test_short(self):
        self.assertEqual(
            [line_length(SHORT, 0, 2), gap(7, SHORT, 1, 3), last_end(5, SHORT, 0), is_text(5, (5, 6)),
             is_text(5, [5])],
            [5, 1, 2, False, False])

    def test_too_long(self):
        with self.assertRaises(TooLong) as caught:
            gap(5, SHORT, 1, 3)
        self.assertEqual(caught.exception.length, 6)

    def test_three_words(self):
        self.assertEqual(
            [line_length((3, 1, 4), 0, 3), line_length((3, 1, 4), 1, 2), last_end(8, (3, 1, 4), 0),
             last_end(10, (3, 1, 4), 0)],
            [10, 1, 2, 3])

    def test_gaps(self):
        self.assertEqual([gap(10 ** 9, (1,), 0, 1), gap(4, (4,), 0, 1)], [999999999, 0])

    def test_values(self):
        self.assertEqual(
            [is_text(3, ()), is_text(3, (3,)), is_text(3, (4,)), is_text(3, (True,)), is_width(0),
             is_width(10 ** 9)],
            [True, True, False, False, False, True])


class LayoutsExamples(unittest.TestCase):
    def test_short(self):
        self.assertEqual(
            [best_layout(5, SHORT), best_cost(5, SHORT), closed_cost(5, SHORT), cost(5, SHORT, (1, 2, 3)),
             full_cost(5, SHORT, (1, 2, 3))],
            [(2, 3), 0, 4, 18, 22])

    def test_turned(self):
        self.assertEqual(
            [best_layout(6, TURNED), closed_layout(6, TURNED), closed_layout(5, (2, 2, 2)),
             list(best_layouts(4, (1, 1, 1, 4)))],
            [(2, 3), (1, 3), (2, 3), [(2, 3, 4), (1, 3, 4)]])

    def test_is_layout(self):
        text = (2, 2, 2)
        self.assertEqual(
            [is_layout(5, text, (2, 3)), is_layout(5, text, (3,)), is_layout(5, text, (1, 2, 3)),
             is_layout(5, text, (2,)), is_layout(5, text, [2, 3]), is_layout(5, (), ())],
            [True, False, True, False, False, True])

    def test_lines_of(self):
        self.assertEqual([lines_of((2, 3, 5)), lines_of(())], [((0, 2), (2, 3), (3, 5)), ()])

    def test_four_ones(self):
        ones = (1, 1, 1, 1, 5)
        self.assertEqual(
            [best_layout(5, ones), best_cost(5, ones), closed_cost(5, ones), count_best(5, ones)],
            [(2, 4, 5), 8, 8, 1])

    def test_five_ones(self):
        ones = (1, 1, 1, 1, 1, 6)
        self.assertEqual(
            [list(best_layouts(6, ones)), best_cost(6, ones), count_best(6, ones)],
            [[(3, 5, 6), (2, 5, 6)], 10, 2])


if __name__ == "__main__":
    unittest.main()

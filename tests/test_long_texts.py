"""Point 6 for texts of 300 words, and for texts with very many best layouts."""

import itertools
import random
import unittest

from settledlines.layouts import (best_cost, best_layout, best_layouts, closed_cost, closed_layout, cost, count_best,
                                  full_cost, is_layout)

MOST = 300
GREATEST = 10 ** 9


def tables(width, text):
    """Return two lists, for the first 0 to n words: (least full cost negated, ends of the latest such layout from
    the last one on), and a dict of how many layouts have each of the least few full costs."""
    latest = [(0, ())]
    counts = [{0: 1}]
    for end in range(1, len(text) + 1):
        begins = [begin for begin in range(max(0, end - 40), end)
                  if sum(text[begin:end]) + end - begin - 1 <= width]
        choices, many = [], {}
        for begin in begins:
            square = (width - sum(text[begin:end]) - (end - begin - 1)) ** 2
            choices.append((latest[begin][0] - square, (end,) + latest[begin][1]))
            for price, number in counts[begin].items():
                many[price + square] = many.get(price + square, 0) + number
        latest.append(max(choices))
        # A layout far above the least one never becomes a best one, whatever is put behind it.
        counts.append({price: many[price] for price in sorted(many)[:60]})
    return latest, counts


class LongCase(unittest.TestCase):
    def check(self, width, text):
        latest, counts = tables(width, text)
        begins = [begin for begin in range(len(text)) if sum(text[begin:]) + len(text) - begin - 1 <= width]
        choices = [(latest[begin][0], (len(text),) + latest[begin][1]) for begin in begins]
        best = max(choices)
        self.assertEqual(closed_layout(width, text), latest[-1][1][::-1])
        self.assertEqual(closed_cost(width, text), -latest[-1][0])
        self.assertEqual(best_layout(width, text), best[1][::-1])
        self.assertEqual(best_cost(width, text), -best[0])
        number = sum(counts[begin].get(-best[0], 0) for begin in begins)
        self.assertEqual(count_best(width, text), number)
        self.check_first(width, text, number)
        return number

    def check_first(self, width, text, number):
        first = list(itertools.islice(best_layouts(width, text), 40))
        self.assertEqual(len(first), min(number, 40))
        self.assertEqual(first[0], best_layout(width, text))
        backwards = [ends[::-1] for ends in first]
        self.assertEqual(backwards, sorted(set(backwards), reverse=True))
        for ends in first:
            self.assertIs(is_layout(width, text, ends), True)
            self.assertEqual(cost(width, text, ends), best_cost(width, text))


class LongTexts(LongCase):
    def test_small_widths(self):
        chance = random.Random(300)
        for width in (1, 2, 3, 5, 8, 13, 20):
            self.check(width, tuple(chance.randint(1, width) for _ in range(MOST)))
            self.check(width, tuple(chance.randint(1, (width + 2) // 3) for _ in range(MOST)))
            self.check(width, (1,) * MOST)
            self.check(width, (width,) * MOST)

    def test_greatest_width(self):
        chance = random.Random(301)
        for longest in (GREATEST, GREATEST // 2, GREATEST // 5, GREATEST // 12):
            self.check(GREATEST, tuple(chance.randint(longest // 2, longest) for _ in range(MOST)))

    def test_one_line_holds_all(self):
        for width, text in [(GREATEST, (1,) * MOST), (599, (1,) * MOST), (GREATEST, (3333332,) * MOST)]:
            self.assertEqual([best_layout(width, text), closed_layout(width, text)], [(MOST,), (MOST,)])
            self.assertEqual([best_cost(width, text), count_best(width, text)], [0, 1])
            self.assertEqual(list(best_layouts(width, text)), [(MOST,)])
            self.assertEqual(closed_cost(width, text), (width - sum(text) - MOST + 1) ** 2)

    def test_one_line_is_too_short_by_one(self):
        text = (1,) * MOST
        self.assertEqual(closed_cost(598, text), 298 ** 2 + 300 ** 2 - 2)
        self.assertEqual(best_layout(598, text), (299, 300))
        self.assertEqual(best_cost(598, text), 1)

    def test_greatest_words(self):
        text = (GREATEST,) * MOST
        self.assertEqual(best_layout(GREATEST, text), tuple(range(1, MOST + 1)))
        self.assertEqual([best_cost(GREATEST, text), closed_cost(GREATEST, text), count_best(GREATEST, text)],
                         [0, 0, 1])

    def test_costs_are_exact(self):
        text = (1, GREATEST) * (MOST // 2)
        each = tuple(range(1, MOST + 1))
        self.assertEqual(best_layout(GREATEST, text), each)
        self.assertEqual(best_cost(GREATEST, text), 150 * 999999999 ** 2)
        turned = (GREATEST, 1) * (MOST // 2)
        self.assertEqual(cost(GREATEST, turned, each), 149 * 999999999 ** 2)
        self.assertEqual(full_cost(GREATEST, turned, each), 150 * 999999999 ** 2)


class VeryManyBest(LongCase):
    def test_more_than_ten_to_the_thirty(self):
        self.assertGreater(self.check(5, (1, 1, 1, 3) * 75), 10 ** 30)

    def test_the_same_at_a_great_width(self):
        factor = 166666666
        text = (2 * factor - 1, 2 * factor - 1, 2 * factor - 1, 4 * factor - 1) * 75
        small = (1, 1, 1, 3) * 75
        wide = 6 * factor - 1
        self.assertEqual(count_best(wide, text), count_best(5, small))
        self.assertEqual(list(itertools.islice(best_layouts(wide, text), 100)),
                         list(itertools.islice(best_layouts(5, small), 100)))

    def test_independent_choices(self):
        # Each block (3, 1, 3) is [3 1] [3] or [3] [1 3], whatever the others are; the words 5 keep them apart.
        blocks = 75
        text = (3, 1, 3, 5) * blocks
        self.assertEqual(count_best(5, text), 2 ** blocks)
        self.assertEqual(best_cost(5, text), 4 * blocks)
        for at, ends in enumerate(itertools.islice(best_layouts(5, text), 64)):
            # The first block is compared last, so it changes first.
            expected = []
            for block in range(blocks):
                turned = at >> block & 1
                expected += [4 * block + 2 - turned, 4 * block + 3, 4 * block + 4]
            self.assertEqual(ends, tuple(expected))

    def test_somewhat_more_words(self):
        text = (3, 1, 3, 5) * 100
        self.assertEqual(count_best(5, text), 2 ** 100)
        self.assertEqual(best_cost(5, text), 400)
        self.assertEqual(len(list(itertools.islice(best_layouts(5, text), 3))), 3)


if __name__ == "__main__":
    unittest.main()

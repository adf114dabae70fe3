"""Point 2: how the functions are called, and what kinds of values they return."""

import inspect
import itertools
import unittest

from settledlines import layouts, words

TEXT = (1, 1, 1, 1, 1, 6, 2)
CALLS = [
    (words.is_width, {"value": 5}),
    (words.is_width, {"value": [5]}),
    (words.is_text, {"width": 6, "value": TEXT}),
    (words.is_text, {"width": 6, "value": [1, [2]]}),
    (words.line_length, {"text": TEXT, "begin": 1, "end": 3}),
    (words.gap, {"width": 6, "text": TEXT, "begin": 1, "end": 3}),
    (words.last_end, {"width": 6, "text": TEXT, "begin": 1}),
    (layouts.is_layout, {"width": 6, "text": TEXT, "value": (3, 5, 6, 7)}),
    (layouts.is_layout, {"width": 6, "text": TEXT, "value": [{}, [3]]}),
    (layouts.lines_of, {"layout": (3, 5, 6, 7)}),
    (layouts.cost, {"width": 6, "text": TEXT, "layout": (3, 5, 6, 7)}),
    (layouts.full_cost, {"width": 6, "text": TEXT, "layout": (3, 5, 6, 7)}),
    (layouts.best_layout, {"width": 6, "text": TEXT}),
    (layouts.closed_layout, {"width": 6, "text": TEXT}),
    (layouts.best_cost, {"width": 6, "text": TEXT}),
    (layouts.closed_cost, {"width": 6, "text": TEXT}),
    (layouts.count_best, {"width": 6, "text": TEXT}),
    (layouts.best_layouts, {"width": 6, "text": TEXT}),
]
KINDS = {
    "is_width": bool, "is_text": bool, "line_length": int, "gap": int, "last_end": int, "is_layout": bool,
    "lines_of": tuple, "cost": int, "full_cost": int, "best_layout": tuple, "closed_layout": tuple, "best_cost": int,
    "closed_cost": int, "count_best": int, "best_layouts": list,
}


def outcome(result):
    return list(result) if inspect.isgenerator(result) else result


def kinds(value):
    """Return the kinds of a value and of all values in it."""
    if isinstance(value, (list, tuple)):
        return [type(value)] + [kinds(item) for item in value]
    return [type(value)]


class Calls(unittest.TestCase):
    def test_by_position_and_by_name_in_any_order(self):
        for function, arguments in CALLS:
            expected = outcome(function(*arguments.values()))
            for names in itertools.permutations(arguments):
                self.assertEqual(outcome(function(**{name: arguments[name] for name in names})), expected)

    def test_equal_calls(self):
        for function, arguments in CALLS:
            first = outcome(function(**arguments))
            for other, others in CALLS:
                outcome(other(**others))
            second = outcome(function(**arguments))
            self.assertEqual(first, second)
            self.assertEqual(kinds(first), kinds(second))

    def test_arguments_stay(self):
        for function, arguments in CALLS:
            before = repr(arguments)
            outcome(function(**arguments))
            self.assertEqual(repr(arguments), before)

    def test_kinds_of_results(self):
        for function, arguments in CALLS:
            self.assertIs(type(outcome(function(**arguments))), KINDS[function.__name__])
        self.assertEqual({function.__name__ for function, _ in CALLS}, set(KINDS))

    def test_kinds_inside(self):
        for value in (layouts.best_layout(6, TEXT), layouts.closed_layout(6, TEXT), layouts.best_layout(6, ()),
                      layouts.closed_layout(6, ()), *layouts.best_layouts(6, TEXT), *layouts.best_layouts(6, ())):
            self.assertIs(type(value), tuple)
            self.assertTrue(all(type(end) is int for end in value))
        for line in layouts.lines_of((3, 5, 6, 7)):
            self.assertEqual(kinds(line), [tuple, [int], [int]])
        self.assertIs(type(layouts.lines_of(())), tuple)

    def test_best_layouts_is_a_generator(self):
        for text in (TEXT, ()):
            self.assertTrue(inspect.isgenerator(layouts.best_layouts(6, text)))

    def test_two_generators_do_not_meet(self):
        expected = list(layouts.best_layouts(6, TEXT))
        self.assertGreater(len(expected), 1)
        pairs = list(zip(layouts.best_layouts(6, TEXT), layouts.best_layouts(6, TEXT)))
        self.assertEqual(pairs, [(ends, ends) for ends in expected])

    def test_functions_stand_in_their_files(self):
        for function, _ in CALLS:
            module = words if hasattr(words, function.__name__) else layouts
            self.assertIs(getattr(module, function.__name__), function)
            self.assertEqual(function.__module__, module.__name__)


if __name__ == "__main__":
    unittest.main()

"""Point 2: how the functions are called, and what kinds of values they return."""

import inspect
import itertools
import unittest

from settledlines import (desk, layouts, paragraphs, repeated, settling, starts, states, streams, strings,
                          words)
from settledlines.errors import BadPlace

TEXT = (1, 1, 1, 1, 1, 6, 2)
CALLS = [
    (words.is_width, {"value": 5}),
    (words.is_width, {"value": [5]}),
    (words.is_text, {"width": 6, "value": TEXT}),
    (words.is_text, {"width": 6, "value": [1, [2]]}),
    (words.line_length, {"text": TEXT, "begin": 1, "end": 3}),
    (words.gap, {"width": 6, "text": TEXT, "begin": 1, "end": 3}),
    (words.last_end, {"width": 6, "text": TEXT, "begin": 1}),
    (layouts.is_layout, {"width": 6, "text": TEXT, "value": (3, 5, 6, 7)}),
    (layouts.is_layout, {"width": 6, "text": TEXT, "value": [{}, [3]]}),
    (layouts.lines_of, {"layout": (3, 5, 6, 7)}),
    (layouts.cost, {"width": 6, "text": TEXT, "layout": (3, 5, 6, 7)}),
    (layouts.full_cost, {"width": 6, "text": TEXT, "layout": (3, 5, 6, 7)}),
    (layouts.best_layout, {"width": 6, "text": TEXT}),
    (layouts.closed_layout, {"width": 6, "text": TEXT}),
    (layouts.best_cost, {"width": 6, "text": TEXT}),
    (layouts.closed_cost, {"width": 6, "text": TEXT}),
    (layouts.count_best, {"width": 6, "text": TEXT}),
    (layouts.best_layouts, {"width": 6, "text": TEXT}),
    (starts.start_of, {"width": 6, "text": TEXT, "future": (1, 2, 6)}),
    (starts.starts, {"width": 6, "text": TEXT}),
    (starts.closing_starts, {"width": 6, "text": TEXT}),
    (starts.open_starts, {"width": 6, "text": TEXT}),
    (states.state_of, {"width": 6, "text": TEXT, "place": 3}),
    (states.states, {"width": 6, "text": TEXT}),
    (states.settled_lines, {"width": 6, "text": TEXT}),
    (states.settled_words, {"width": 6, "text": TEXT}),
    (states.two_futures, {"width": 6, "text": TEXT, "place": 7}),
    (states.shows_open, {"width": 6, "text": TEXT, "place": 7, "value": ((), (1,))}),
    (states.shows_open, {"width": 6, "text": TEXT, "place": 1, "value": [{}, ([3],)]}),
    (states.shows_open, {"width": 6, "text": TEXT, "place": 1, "value": ({"a": [1]}, ([3],))}),
    (settling.settling_words, {"width": 6, "text": TEXT, "place": 7}),
    (settling.least_settling, {"width": 6, "text": TEXT, "place": 7}),
    (repeated.held_words, {"width": 6, "text": TEXT}),
    (repeated.lag, {"width": 6, "start": TEXT, "pattern": (2, 1)}),
    (repeated.lag, {"width": 6, "start": (3,), "pattern": (2,)}),
    (strings.read_words, {"source": "to be or not"}),
    (strings.typeset, {"width": 6, "source": "to be or not"}),
    (strings.settled_part, {"width": 6, "source": "to be or not"}),
    (strings.show_text, {"text": TEXT}),
    (strings.read_text, {"width": 6, "source": "1 6 2"}),
]
KINDS = {
    "is_width": bool, "is_text": bool, "line_length": int, "gap": int, "last_end": int, "is_layout": bool,
    "lines_of": tuple, "cost": int, "full_cost": int, "best_layout": tuple, "closed_layout": tuple, "best_cost": int,
    "closed_cost": int, "count_best": int, "best_layouts": list, "start_of": int, "starts": tuple,
    "closing_starts": tuple, "open_starts": tuple, "state_of": str, "states": tuple, "settled_lines": tuple,
    "settled_words": int, "two_futures": tuple, "shows_open": bool, "settling_words": tuple, "least_settling": int,
    "held_words": int, "lag": int, "read_words": tuple, "typeset": str, "settled_part": str, "show_text": str,
    "read_text": tuple,
}
# What returns None for some arguments, and such arguments.
NONE_FOR = [(states.two_futures, (6, TEXT, 1)), (repeated.lag, (6, (3,), (2,)))]
# Calls with a value that is no place, which raise BadPlace.
WRONG_CALLS = [
    (states.state_of, {"width": 6, "text": TEXT, "place": [8]}),
    (states.two_futures, {"width": 6, "text": TEXT, "place": {"a": [8]}}),
    (states.shows_open, {"width": 6, "text": TEXT, "place": ([8],), "value": [1]}),
    (settling.settling_words, {"width": 6, "text": TEXT, "place": 8}),
    (settling.least_settling, {"width": 6, "text": TEXT, "place": True}),
]
FILES = {
    words: ["is_width", "is_text", "line_length", "gap", "last_end"],
    layouts: ["is_layout", "lines_of", "cost", "full_cost", "best_layout", "closed_layout", "best_cost",
              "closed_cost", "count_best", "best_layouts"],
    starts: ["start_of", "starts", "closing_starts", "open_starts"],
    states: ["state_of", "states", "settled_lines", "settled_words", "two_futures", "shows_open"],
    settling: ["settling_words", "least_settling"],
    repeated: ["held_words", "lag"],
    strings: ["read_words", "typeset", "settled_part", "show_text", "read_text"],
}
# The classes, and what stands in each of them.
CLASSES = {
    streams.Stream: ["__init__", "put", "put_all", "close", "width", "given", "held", "is_closed", "twin", "__len__",
                     "__enter__", "__exit__"],
    paragraphs.Paragraph: ["__init__", "width", "text", "layout", "cost", "insert", "remove", "widen", "firm", "undo",
                           "edits", "of", "twin", "__eq__", "__len__"],
    desk.Desk: ["__init__", "say"],
}
CLASS_FILES = {streams.Stream: streams, paragraphs.Paragraph: paragraphs, desk.Desk: desk}


def outcome(result):
    return list(result) if inspect.isgenerator(result) else result


def kinds(value):
    """Return the kinds of a value and of all values in it."""
    if isinstance(value, (list, tuple)):
        return [type(value)] + [kinds(item) for item in value]
    return [type(value)]


class Calls(unittest.TestCase):
    def test_by_position_and_by_name_in_any_order(self):
        for function, arguments in CALLS:
            expected = outcome(function(*arguments.values()))
            for names in itertools.permutations(arguments):
                self.assertEqual(outcome(function(**{name: arguments[name] for name in names})), expected)

    def test_equal_calls(self):
        for function, arguments in CALLS:
            first = outcome(function(**arguments))
            for other, others in CALLS:
                outcome(other(**others))
            second = outcome(function(**arguments))
            self.assertEqual(first, second)
            self.assertEqual(kinds(first), kinds(second))

    def test_arguments_stay(self):
        for function, arguments in CALLS:
            before = repr(arguments)
            outcome(function(**arguments))
            self.assertEqual(repr(arguments), before)

    def test_kinds_of_results(self):
        for function, arguments in CALLS:
            result = outcome(function(**arguments))
            if result is not None:
                self.assertIs(type(result), KINDS[function.__name__])
        for function, arguments in NONE_FOR:
            self.assertIsNone(function(*arguments))
        self.assertEqual({function.__name__ for function, _ in CALLS}, set(KINDS))

    def test_wrong_places_by_position_and_by_name(self):
        for function, arguments in WRONG_CALLS:
            before = repr(arguments)
            for names in itertools.permutations(arguments):
                with self.assertRaises(BadPlace) as caught:
                    function(**{name: arguments[name] for name in names})
                self.assertIs(caught.exception.value, arguments["place"])
            with self.assertRaises(BadPlace) as caught:
                function(*arguments.values())
            self.assertIs(caught.exception.value, arguments["place"])
            self.assertEqual(repr(arguments), before)

    def test_kinds_inside(self):
        for value in (layouts.best_layout(6, TEXT), layouts.closed_layout(6, TEXT), layouts.best_layout(6, ()),
                      layouts.closed_layout(6, ()), *layouts.best_layouts(6, TEXT), *layouts.best_layouts(6, ())):
            self.assertIs(type(value), tuple)
            self.assertTrue(all(type(end) is int for end in value))
        for line in layouts.lines_of((3, 5, 6, 7)):
            self.assertEqual(kinds(line), [tuple, [int], [int]])
        self.assertIs(type(layouts.lines_of(())), tuple)

    def test_best_layouts_is_a_generator(self):
        for text in (TEXT, ()):
            self.assertTrue(inspect.isgenerator(layouts.best_layouts(6, text)))

    def test_two_generators_do_not_meet(self):
        expected = list(layouts.best_layouts(6, TEXT))
        self.assertGreater(len(expected), 1)
        pairs = list(zip(layouts.best_layouts(6, TEXT), layouts.best_layouts(6, TEXT)))
        self.assertEqual(pairs, [(ends, ends) for ends in expected])

    def test_functions_stand_in_their_files(self):
        for module, names in FILES.items():
            for name in names:
                self.assertEqual(getattr(module, name).__module__, module.__name__)
        self.assertEqual({name for names in FILES.values() for name in names}, set(KINDS))

    def test_classes_stand_in_their_files(self):
        for kind, module in CLASS_FILES.items():
            self.assertEqual(kind.__module__, module.__name__)
            self.assertIs(getattr(module, kind.__name__), kind)
            self.assertLessEqual(set(CLASSES[kind]), set(vars(kind)))


if __name__ == "__main__":
    unittest.main()

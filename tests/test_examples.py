"""The examples of points 5 to 13 of the document."""

import unittest

from settledlines.desk import Desk
from settledlines.errors import BadLine, BadPlace, BadSource, BadText, BadWidth, BadWord, Closed, NoStream, TooLong
from settledlines.layouts import (best_cost, best_layout, best_layouts, closed_cost, closed_layout, cost, count_best,
                                  full_cost, is_layout, lines_of)
from settledlines.paragraphs import Paragraph
from settledlines.repeated import held_words, lag
from settledlines.settling import least_settling, settling_words
from settledlines.starts import closing_starts, open_starts, start_of, starts
from settledlines.states import settled_lines, settled_words, shows_open, state_of, states, two_futures
from settledlines.streams import Stream
from settledlines.strings import read_text, read_words, settled_part, show_text, typeset
from settledlines.words import gap, is_text, is_width, last_end, line_length

TWOS = (2, 2)
SHORT = (2, 2, 3)
TURNED = (3, 2, 2)


class WordsExamples(unittest.TestCase):
    def test_short(self):
        self.assertEqual(
            [line_length(SHORT, 0, 2), gap(7, SHORT, 1, 3), last_end(5, SHORT, 0), is_text(5, (5, 6)),
             is_text(5, [5])],
            [5, 1, 2, False, False])

    def test_too_long(self):
        with self.assertRaises(TooLong) as caught:
            gap(5, SHORT, 1, 3)
        self.assertEqual(caught.exception.length, 6)

    def test_three_words(self):
        self.assertEqual(
            [line_length((3, 1, 4), 0, 3), line_length((3, 1, 4), 1, 2), last_end(8, (3, 1, 4), 0),
             last_end(10, (3, 1, 4), 0)],
            [10, 1, 2, 3])

    def test_gaps(self):
        self.assertEqual([gap(10 ** 9, (1,), 0, 1), gap(4, (4,), 0, 1)], [999999999, 0])

    def test_values(self):
        self.assertEqual(
            [is_text(3, ()), is_text(3, (3,)), is_text(3, (4,)), is_text(3, (True,)), is_width(0),
             is_width(10 ** 9)],
            [True, True, False, False, False, True])


class LayoutsExamples(unittest.TestCase):
    def test_short(self):
        self.assertEqual(
            [best_layout(5, SHORT), best_cost(5, SHORT), closed_cost(5, SHORT), cost(5, SHORT, (1, 2, 3)),
             full_cost(5, SHORT, (1, 2, 3))],
            [(2, 3), 0, 4, 18, 22])

    def test_turned(self):
        self.assertEqual(
            [best_layout(6, TURNED), closed_layout(6, TURNED), closed_layout(5, (2, 2, 2)),
             list(best_layouts(4, (1, 1, 1, 4)))],
            [(2, 3), (1, 3), (2, 3), [(2, 3, 4), (1, 3, 4)]])

    def test_is_layout(self):
        text = (2, 2, 2)
        self.assertEqual(
            [is_layout(5, text, (2, 3)), is_layout(5, text, (3,)), is_layout(5, text, (1, 2, 3)),
             is_layout(5, text, (2,)), is_layout(5, text, [2, 3]), is_layout(5, (), ())],
            [True, False, True, False, False, True])

    def test_lines_of(self):
        self.assertEqual([lines_of((2, 3, 5)), lines_of(())], [((0, 2), (2, 3), (3, 5)), ()])

    def test_four_ones(self):
        ones = (1, 1, 1, 1, 5)
        self.assertEqual(
            [best_layout(5, ones), best_cost(5, ones), closed_cost(5, ones), count_best(5, ones)],
            [(2, 4, 5), 8, 8, 1])

    def test_five_ones(self):
        ones = (1, 1, 1, 1, 1, 6)
        self.assertEqual(
            [list(best_layouts(6, ones)), best_cost(6, ones), count_best(6, ones)],
            [[(3, 5, 6), (2, 5, 6)], 10, 2])


class StartsExamples(unittest.TestCase):
    def test_twos(self):
        self.assertEqual(
            [closing_starts(5, TWOS), open_starts(5, TWOS), starts(5, TWOS), start_of(5, TWOS, (1, 5))],
            [((1, 1, 1), (2, 5, 2)), ((1, 5, 2),), (1, 2), 1])

    def test_turned(self):
        self.assertEqual(
            [closing_starts(6, TURNED), closing_starts(10 ** 9, (1,))],
            [((1, 3, 2), (4, 6, 3)), ((1, 999999998, 0), (999999999, 1000000000, 1))])

    def test_four_words(self):
        self.assertEqual(
            [closing_starts(7, (2, 2, 2, 3)), open_starts(7, (2, 2, 2, 3))],
            [((1, 1, 3), (2, 7, 4)), ((1, 7, 4),)])

    def test_empty_and_one_word(self):
        self.assertEqual(
            [closing_starts(3, ()), starts(3, ()), starts(5, (5,)), starts(5, (3,))],
            [((1, 3, 0),), (0,), (1,), (0, 1)])

    def test_ones(self):
        self.assertEqual(closing_starts(3, (1, 1)), ((1, 3, 2),))


class StatesExamples(unittest.TestCase):
    def test_states(self):
        self.assertEqual(
            [states(5, SHORT), settled_lines(5, SHORT), states(5, TWOS), settled_words(5, TWOS), states(6, TURNED)],
            [("never", "always", "sometimes"), ((0, 2),), ("sometimes", "sometimes"), 0,
             ("sometimes", "sometimes", "sometimes")])

    def test_futures(self):
        self.assertEqual(
            [two_futures(5, SHORT, 2), shows_open(5, TWOS, 1, ((1, 5), ())), shows_open(5, TWOS, 1, ((1,), ())),
             len(two_futures(5, TWOS, 1)[0])],
            [None, True, False, 2])

    def test_bad_place(self):
        with self.assertRaises(BadPlace) as caught:
            state_of(5, SHORT, 4)
        self.assertEqual(caught.exception.value, 4)

    def test_settled(self):
        self.assertEqual(
            [states(6, (6, 6)), settled_lines(6, (6, 6)), settled_lines(3, (1, 1)), states(5, (4, 5, 3))],
            [("always", "always"), ((0, 1), (1, 2)), ((0, 2),), ("always", "always", "sometimes")])

    def test_shows_open(self):
        self.assertEqual(
            [shows_open(5, (2, 2), 2, ((), (1, 5))), shows_open(5, (2, 2), 2, ((), (6,)))], [True, False])

    def test_no_place_in_the_empty_text(self):
        with self.assertRaises(BadPlace) as caught:
            two_futures(5, (), 1)
        self.assertEqual(caught.exception.value, 1)


class SettlingExamples(unittest.TestCase):
    def test_twos_and_short(self):
        self.assertEqual(
            [settling_words(5, TWOS, 1), settling_words(5, TWOS, 2), least_settling(5, TWOS, 1),
             settling_words(5, SHORT, 1)],
            [((2, 5),), ((2, 5),), 2, ((1, 5),)])

    def test_twos_and_six(self):
        self.assertEqual(
            [settling_words(5, (2, 2), 2), least_settling(5, (2, 2), 2), settling_words(6, (6,), 1)],
            [((2, 5),), 2, ((1, 6),)])

    def test_bad_place(self):
        with self.assertRaises(BadPlace) as caught:
            least_settling(5, (2, 2), 3)
        self.assertEqual(caught.exception.value, 3)


class RepeatedExamples(unittest.TestCase):
    def test_held_words_and_lag(self):
        self.assertEqual(
            [held_words(5, SHORT), lag(5, (), (2,)), lag(6, (3,), (2,)), lag(6, (), (6,))], [1, 2, None, 0])

    def test_held_words(self):
        self.assertEqual(
            [held_words(5, ()), held_words(5, (2, 2)), held_words(5, (2, 2, 3)), held_words(5, (2, 2, 5))],
            [0, 2, 1, 0])

    def test_lag(self):
        self.assertEqual([lag(5, (), (3,)), lag(5, (), (4,)), lag(5, (1, 1), (2, 5))], [1, 0, 0])


class StreamsExamples(unittest.TestCase):
    def test_short(self):
        stream = Stream(5)
        self.assertEqual(
            [stream.put_all(2, 2), stream.put(3), stream.held, stream.close(), stream.given, len(stream)],
            [(), ((2, 2),), (3,), ((3,),), ((2, 2), (3,)), 3])

    def test_bad_word(self):
        with self.assertRaises(BadWord) as caught:
            Stream(5).put(6)
        self.assertEqual(caught.exception.value, 6)

    def test_turned(self):
        stream = Stream(6)
        self.assertEqual(
            [stream.put_all(3, 2, 2), stream.held, stream.put(6), stream.given, stream.held],
            [(), (3, 2, 2), ((3,), (2, 2), (6,)), ((3,), (2, 2), (6,)), ()])

    def test_closed(self):
        stream = Stream(5)
        self.assertEqual(stream.close(), ())
        with self.assertRaises(Closed):
            stream.put(0)

    def test_twin(self):
        stream = Stream(5)
        twin = stream.twin()
        self.assertEqual(
            [stream.put_all(2, 2, 3), twin.put(5), twin.given, stream.given, len(twin)],
            [((2, 2),), ((5,),), ((5,),), ((2, 2),), 1])


class ParagraphsExamples(unittest.TestCase):
    def test_short(self):
        part = Paragraph(5, SHORT)
        self.assertEqual(
            [part.firm(3), part.firm(2), part.insert(0, (4,)), part.layout(), part.undo(), part.layout(), part.edits()],
            [((0, 2),), (), None, (1, 3, 4), None, (2, 3), 0])
        with self.assertRaises(BadWidth) as caught:
            part.widen(2)
        self.assertEqual(caught.exception.value, 2)

    def test_turned(self):
        part = Paragraph(6, (3, 2, 2))
        self.assertEqual(
            (part.layout(), part.cost(), part.firm(3), part.widen(7), part.layout(), part.edits(), part.undo(),
             part.width),
            ((2, 3), 0, (), None, (2, 3), 1, None, 6))

    def test_bad_place(self):
        part = Paragraph(5, (2, 2, 3))
        with self.assertRaises(BadPlace) as caught:
            part.remove(2, 1)
        self.assertEqual(caught.exception.value, 1)

    def test_bad_text(self):
        part = Paragraph(5, (2, 2, 3))
        with self.assertRaises(BadText) as caught:
            part.insert(3, (6,))
        self.assertEqual(caught.exception.value, (6,))

    def test_of(self):
        part = Paragraph.of("to be or not", 7)
        self.assertEqual((part.text, part.layout(), part.firm(4)), ((2, 2, 2, 3), (2, 4), ((0, 2),)))
        with self.assertRaises(BadText) as caught:
            Paragraph.of("to be", 1)
        self.assertEqual(caught.exception.value, (2, 2))


class StringsExamples(unittest.TestCase):
    def test_words_and_texts(self):
        self.assertEqual(
            [typeset(7, "to be or not"), settled_part(7, "to be or not"), show_text(SHORT), read_text(5, "2 2 3"),
             show_text(())],
            ["to be\nor not", "to be", "2 2 3", (2, 2, 3), "-"])

    def test_bad_sources(self):
        for call, arguments, position in [(read_words, ("to  be",), 3), (read_words, ("to be ",), 6),
                                          (read_text, (5, "2 02"), 0)]:
            with self.assertRaises(BadSource) as caught:
                call(*arguments)
            self.assertEqual(caught.exception.position, position)


class DeskExamples(unittest.TestCase):
    def test_close(self):
        desk = Desk()
        self.assertEqual(
            [desk.say("width 5"), desk.say("put 2 2"), desk.say("state 1"), desk.say("put 3"), desk.say("held"),
             desk.say("close")],
            ["done", "-", "sometimes", "2 2", "3", "3"])

    def test_text(self):
        desk = Desk()
        self.assertEqual(
            (desk.say("width 5"), desk.say("put 2 2"), desk.say("layout"), desk.say("state 2"), desk.say("put 3"),
             desk.say("futures 2"), desk.say("text")),
            ("done", "-", "2", "sometimes", "2 2", "settled", "2 2 3"))

    def test_no_stream(self):
        with self.assertRaises(NoStream):
            Desk().say("held")

    def test_bad_line(self):
        with self.assertRaises(BadLine) as caught:
            Desk().say("put 02")
        self.assertEqual(caught.exception.line, "put 02")


if __name__ == "__main__":
    unittest.main()

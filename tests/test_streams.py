"""Point 11: streams."""

import random
import unittest

from settledlines.errors import BadWidth, BadWord, Closed
from settledlines.layouts import best_layout, best_layouts
from settledlines.states import settled_lines
from settledlines.streams import Stream
from support import (ANY_VALUES, Grown, all_texts, caught, grown, is_word, lines_between, random_words,
                     settled_words_by)

GREATEST = 10 ** 9
SHORT = (2, 2, 3)
WRONG_WORDS = [value for value in ANY_VALUES if not is_word(5, value)]


def state(stream):
    """Return all that a stream tells of itself."""
    return stream.width, stream.given, stream.held, stream.is_closed, len(stream)


def filled(width, words):
    """Return a stream of these words."""
    stream = Stream(width)
    stream.put_all(*words)
    return stream


class StreamCase(unittest.TestCase):
    def check_state(self, stream, width, given, held, is_closed):
        self.assertEqual(state(stream), (width, given, held, is_closed, sum(map(len, given)) + len(held)))
        self.assertIs(type(stream.width), int)
        self.assertIs(type(stream.held), tuple)
        self.assertIs(type(stream.is_closed), bool)
        self.check_lines(stream.given)

    def check_lines(self, lines):
        """Check the kinds of lines."""
        self.assertIs(type(lines), tuple)
        self.assertTrue(all(type(line) is tuple and line for line in lines))
        self.assertTrue(all(type(word) is int for line in lines for word in line))


class Put(StreamCase):
    def test_new_stream(self):
        for width in (1, 2, 5, GREATEST):
            self.check_state(Stream(width), width, (), (), False)

    def test_against_all_futures_of_two_words(self):
        for width, most in [(1, 8), (2, 7), (3, 5), (4, 5), (5, 4), (6, 4)]:
            waiting = [(Stream(width), Grown(width))]
            while waiting:
                stream, laid_out = waiting.pop()
                before = stream.given
                for word in range(1, width + 1):
                    longer = stream.twin()
                    lines = longer.put(word)
                    self.check_put(longer, lines, before, laid_out.then(word))
                    if len(longer) < most:
                        waiting.append((longer, laid_out.then(word)))

    def check_put(self, stream, lines, before, laid_out):
        given = settled_words_by(laid_out, 2)
        self.assertEqual(before + lines, given, (laid_out.width, laid_out.text))
        self.check_lines(lines)
        self.check_state(stream, laid_out.width, given, laid_out.text[sum(map(len, given)):], False)

    def test_without_twins(self):
        chance = random.Random(121)
        for _ in range(120):
            width = chance.randint(1, 6)
            stream, laid_out = Stream(width), Grown(width)
            for word in random_words(chance, width, 25):
                before, lines, laid_out = stream.given, stream.put(word), laid_out.then(word)
                self.check_put(stream, lines, before, laid_out)

    def test_values_of_any_kind(self):
        for words in [(), (2,), (2, 2), SHORT]:
            for value in ANY_VALUES:
                stream = filled(5, words)
                before = state(stream)
                error = caught(stream.put, value)
                if is_word(5, value):
                    self.assertIsNone(error)
                    self.assertEqual(state(stream), state(filled(5, words + (value,))))
                else:
                    self.assertIs(type(error), BadWord)
                    self.assertIs(error.value, value)
                    self.assertEqual(state(stream), before)

    def test_words_at_the_limits(self):
        for width in (1, 2, 60, GREATEST):
            for word, expected in [(-1, False), (0, False), (1, True), (width, True), (width + 1, False)]:
                stream = Stream(width)
                error = caught(stream.put, word)
                self.assertEqual(error is None, expected)
                self.assertEqual(len(stream), int(expected))

    def test_goes_on_behind_an_error(self):
        stream = Stream(5)
        stream.put_all(2, 2)
        for value in WRONG_WORDS:
            self.assertIs(type(caught(stream.put, value)), BadWord)
        self.assertEqual([stream.put(3), stream.held], [((2, 2),), (3,)])


class PutAll(StreamCase):
    def lots(self, chance, words):
        """Return the words in lots, some of them without words."""
        found = []
        while words:
            many = chance.randint(0, 5)
            found.append(words[:many])
            words = words[many:]
        return found

    def test_lots_against_word_by_word(self):
        chance = random.Random(122)
        for _ in range(250):
            width = chance.choice([1, 2, 3, 4, 5, 6, 12, 60, GREATEST])
            one, other = Stream(width), Stream(width)
            for lot in self.lots(chance, random_words(chance, width, chance.randint(0, 40))):
                lines = ()
                for word in lot:
                    lines += one.put(word)
                found = other.put_all(*lot)
                self.check_lines(found)
                self.assertEqual(found, lines)
                self.assertEqual(state(one), state(other))
            self.assertEqual(one.close(), other.close())

    def test_all_small_texts_at_once(self):
        for width, most in [(1, 6), (2, 6), (3, 5), (5, 4)]:
            for text in all_texts(width, most):
                stream = Stream(width)
                lines = stream.put_all(*text)
                self.assertEqual(lines, settled_words_by(grown(width, text), 2))
                self.check_state(stream, width, lines, text[sum(map(len, lines)):], False)

    def test_without_words(self):
        for words in [(), (2,), SHORT]:
            stream = filled(5, words)
            before = state(stream)
            self.assertEqual([stream.put_all(), stream.put_all(), state(stream)], [(), (), before])

    def test_the_first_wrong_value(self):
        for value in WRONG_WORDS:
            for other in (value, None, 0, 6, [7]):
                for words in [(value,), (value, 5), (5, value), (2, 3, value, 4), (5, 5, 5, value, other, 5, other)]:
                    stream = filled(5, SHORT)
                    before = state(stream)
                    error = caught(stream.put_all, *words)
                    self.assertIs(type(error), BadWord)
                    self.assertIs(error.value, value)
                    # None was added, also none of those ahead of it.
                    self.assertEqual(state(stream), before)
                    self.assertEqual(stream.put(5), ((3,), (5,)))


class Close(StreamCase):
    def check(self, width, text, ends):
        stream = Stream(width)
        given = stream.put_all(*text)
        rest = stream.close()
        self.check_lines(rest)
        self.assertEqual(given + rest, lines_between(text, ends), (width, text))
        self.check_state(stream, width, given + rest, (), True)

    def test_all_small_texts(self):
        for width, most in [(1, 6), (2, 6), (3, 5), (4, 4), (5, 4), (6, 3)]:
            for text in all_texts(width, most):
                self.check(width, text, grown(width, text).best())

    def test_longer_texts(self):
        chance = random.Random(123)
        for _ in range(150):
            width = chance.choice([5, 12, 60, 1000, GREATEST])
            text = random_words(chance, width, chance.randint(0, 60))
            self.check(width, text, grown(width, text).best())

    def test_several_best_layouts_with_other_last_lines(self):
        for width, text in [(6, (4, 1, 2, 3, 1, 1, 4)), (8, (4, 3, 1, 5, 1, 1, 5)), (10, (4, 3, 2, 7, 1, 1, 8))]:
            begins = {ends[-2] for ends in best_layouts(width, text)}
            self.assertGreater(len(begins), 1)
            ends = grown(width, text).best()
            self.assertEqual(ends[-2], max(begins))
            self.check(width, text, ends)

    def test_a_layout_that_turns(self):
        # While the stream is open the words behind 3 are held; the last line of the best layout is not settled.
        stream = filled(6, (3, 2, 2))
        self.check_state(stream, 6, (), (3, 2, 2), False)
        self.assertEqual(stream.close(), ((3, 2), (2,)))
        self.check_state(stream, 6, ((3, 2), (2,)), (), True)

    def test_without_words(self):
        stream = Stream(5)
        self.assertEqual(stream.close(), ())
        self.check_state(stream, 5, (), (), True)

    def test_all_is_given_out_already(self):
        stream = filled(5, (5, 5))
        self.assertEqual(stream.close(), ())
        self.check_state(stream, 5, ((5,), (5,)), (), True)

    def test_closed_stream(self):
        for words in [(), (2, 2), SHORT, (5,)]:
            stream = filled(5, words)
            stream.close()
            before = state(stream)
            calls = [(stream.close, ()), (stream.put_all, ()), (stream.put_all, (1, 2)), (stream.put_all, (1, 6, None))]
            calls += [(stream.put, (value,)) for value in ANY_VALUES]
            calls += [(stream.put_all, (value,)) for value in ANY_VALUES]
            for call, arguments in calls:
                self.assertIs(type(caught(call, *arguments)), Closed)
                self.assertEqual(state(stream), before)


class Widths(StreamCase):
    def test_values_of_any_kind(self):
        for value in ANY_VALUES:
            error = caught(Stream, value)
            if is_word(GREATEST, value):
                self.assertIsNone(error)
                self.check_state(Stream(value), value, (), (), False)
            else:
                self.assertIs(type(error), BadWidth)
                self.assertIs(error.value, value)

    def test_limits(self):
        for value in (0, -1, GREATEST + 1, True):
            self.assertIs(type(caught(Stream, value)), BadWidth)
        for value in (1, GREATEST):
            self.assertIsNone(caught(Stream, value))

    def test_by_name(self):
        self.assertEqual(Stream(width=5).put(word=5), ((5,),))
        with self.assertRaises(BadWidth) as error:
            Stream(width=[5])
        self.assertEqual(error.exception.value, [5])


class Properties(StreamCase):
    def test_cannot_be_set(self):
        for words in [(), SHORT]:
            for close in (False, True):
                stream = filled(5, words)
                if close:
                    stream.close()
                before = state(stream)
                for name in ("width", "given", "held", "is_closed"):
                    for value in (getattr(stream, name), 7, ()):
                        with self.assertRaises(AttributeError):
                            setattr(stream, name, value)
                self.assertEqual(state(stream), before)

    def test_what_was_told_stays(self):
        stream = filled(5, (2, 2))
        given, held = stream.given, stream.held
        stream.put_all(3, 5)
        stream.close()
        self.assertEqual([given, held], [(), (2, 2)])


class Twins(StreamCase):
    def test_go_on_independently(self):
        chance = random.Random(124)
        for _ in range(150):
            width = chance.choice([1, 3, 5, 6, 20, GREATEST])
            words, one_more, other_more = [random_words(chance, width, chance.randint(0, 12)) for _ in range(3)]
            stream = filled(width, words)
            twin = stream.twin()
            self.assertIs(type(twin), Stream)
            self.assertEqual(state(twin), state(stream))
            for word in one_more:
                stream.put(word)
            self.assertEqual(state(twin), state(filled(width, words)))
            twin.put_all(*other_more)
            self.assertEqual(state(stream), state(filled(width, words + one_more)))
            self.assertEqual(state(twin), state(filled(width, words + other_more)))

    def test_one_is_closed(self):
        stream = filled(5, (2, 2))
        twin = stream.twin()
        self.assertEqual(stream.close(), ((2, 2),))
        self.check_state(twin, 5, (), (2, 2), False)
        self.assertEqual(twin.put(1), ())
        self.check_state(twin, 5, (), (2, 2, 1), False)
        self.check_state(stream, 5, ((2, 2),), (), True)
        self.assertEqual(twin.twin().close(), ((2, 2), (1,)))
        self.assertIs(twin.is_closed, False)

    def test_of_a_closed_stream(self):
        for words in [(), (2, 2), SHORT]:
            stream = filled(5, words)
            stream.close()
            twin = stream.twin()
            self.assertEqual(state(twin), state(stream))
            for call, arguments in [(twin.put, (1,)), (twin.put_all, ()), (twin.close, ())]:
                self.assertIs(type(caught(call, *arguments)), Closed)
            self.assertEqual(state(twin), state(stream))


class With(StreamCase):
    def test_closed_at_its_end(self):
        for words, given in [((), ()), ((2, 2), ((2, 2),)), (SHORT, ((2, 2), (3,))), ((3, 3), ((3,), (3,)))]:
            with Stream(5) as stream:
                stream.put_all(*words)
                self.assertIs(stream.is_closed, False)
            self.check_state(stream, 5, given, (), True)
            self.assertIs(type(caught(stream.put, 1)), Closed)

    def test_gives_the_stream_itself(self):
        stream = filled(6, (3, 2, 2))
        with stream as inner:
            self.assertIs(inner, stream)
        self.check_state(stream, 6, ((3, 2), (2,)), (), True)

    def test_an_error_is_passed_on(self):
        for raised in (ValueError("a"), KeyError(1), BadWord([1]), KeyboardInterrupt()):
            stream = filled(5, (2, 2))
            with self.assertRaises(type(raised)) as error:
                with stream:
                    stream.put(1)
                    raise raised
            self.assertIs(error.exception, raised)
            self.check_state(stream, 5, ((2, 2), (1,)), (), True)

    def test_an_error_of_the_stream_is_passed_on(self):
        with self.assertRaises(BadWord) as error:
            with Stream(5) as stream:
                stream.put(2)
                stream.put(6)
        self.assertEqual(error.exception.value, 6)
        self.check_state(stream, 5, ((2,),), (), True)

    def test_closed_already(self):
        with Stream(5) as stream:
            stream.put_all(*SHORT)
            self.assertEqual(stream.close(), ((3,),))
        self.check_state(stream, 5, ((2, 2), (3,)), (), True)
        with stream:
            self.assertIs(stream.is_closed, True)
        self.check_state(stream, 5, ((2, 2), (3,)), (), True)
        with self.assertRaises(ZeroDivisionError):
            with stream:
                raise ZeroDivisionError
        self.check_state(stream, 5, ((2, 2), (3,)), (), True)

    def test_left_in_other_ways(self):
        def first_word(stream):
            with stream:
                return stream.held[0]
        stream = filled(5, (2, 2))
        self.assertEqual(first_word(stream), 2)
        self.check_state(stream, 5, ((2, 2),), (), True)
        for stream in [Stream(5), Stream(6)]:
            with stream:
                continue
        self.assertIs(stream.is_closed, True)

    def test_twins_stay_open(self):
        with Stream(5) as stream:
            twin = stream.twin()
        self.assertEqual([stream.is_closed, twin.is_closed], [True, False])


class ManyWords(StreamCase):
    def check(self, width, words, step):
        stream, given = Stream(width), ()
        for many, word in enumerate(words, 1):
            given += stream.put(word)
            if many % step == 0 or many == len(words):
                settled = settled_lines(width, words[:many])
                self.assertEqual(given, tuple(words[begin:end] for begin, end in settled))
                self.check_state(stream, width, given, words[sum(map(len, given)):many], False)
        ends = best_layout(width, words)
        self.assertEqual(ends, grown(width, words).best())
        self.assertEqual(given + stream.close(), lines_between(words, ends))
        self.check_state(stream, width, lines_between(words, ends), (), True)

    def test_more_than_three_hundred_words(self):
        chance = random.Random(125)
        for width, longest in [(1, 1), (2, 2), (5, 3), (20, 8), (80, 10), (1000, 300), (GREATEST, GREATEST // 3)]:
            self.check(width, tuple(chance.randint(1, longest) for _ in range(900)), 90)

    def test_greatest_words(self):
        self.check(GREATEST, (GREATEST,) * 400, 100)
        self.check(GREATEST, (GREATEST // 2,) * 400, 100)
        self.check(GREATEST, (GREATEST // 2 - 1, GREATEST // 2 + 1) * 200, 100)

    def test_nothing_settles_for_long(self):
        stream = filled(6, (3,))
        for _ in range(1500):
            self.assertEqual(stream.put(2), ())
        self.assertEqual([len(stream.held), len(stream)], [1501, 1501])
        lines = stream.put(6)
        self.assertEqual(sum(lines, ()), (3,) + (2,) * 1500 + (6,))
        self.check_state(stream, 6, lines, (), False)

    def test_all_on_one_line(self):
        stream = Stream(GREATEST)
        for _ in range(600):
            self.assertEqual(stream.put(1), ())
        self.assertEqual(stream.twin().put(GREATEST), ((1,) * 600, (GREATEST,)))
        self.assertEqual(stream.close(), ((1,) * 600,))

    def test_very_many_words_at_once(self):
        stream = Stream(5)
        self.assertEqual(stream.put_all(*(2,) * 20001), ((2, 2),) * 10000)
        self.assertEqual([stream.held, stream.close(), len(stream)], [(2,), ((2,),), 20001])


if __name__ == "__main__":
    unittest.main()

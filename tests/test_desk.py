"""Point 13: the desk."""

import itertools
import random
import re
import unittest

from settledlines.desk import Desk
from settledlines.errors import BadLine, BadPlace, BadWidth, BadWord, Closed, NoStream
from settledlines.layouts import best_layout
from settledlines.states import shows_open, state_of, two_futures
from settledlines.streams import Stream
from settledlines.strings import read_text, show_text
from support import ANY_VALUES, all_texts, caught, random_words

GREATEST = 10 ** 9
SHORT = (2, 2, 3)
NUMBER = "(0|[1-9][0-9]{0,9})"
FORMS = [f"width {NUMBER}", f"put( {NUMBER})+", "close", "held", "text", "layout", f"state {NUMBER}",
         f"futures {NUMBER}"]
# One line of each form.
LINES = ["width 5", "put 2 3", "close", "held", "text", "layout", "state 1", "futures 1"]
CHARACTERS = [chr(number) for number in range(32, 127)] + ["\n"]


def has_form(value):
    return isinstance(value, str) and any(re.fullmatch(form, value) for form in FORMS)


def shown(lines):
    return " / ".join(" ".join(map(str, line)) for line in lines) if lines else "-"


def numbers(words):
    return " ".join(map(str, words))


def filled(width, words, close=False):
    """Return a desk with a stream of these words."""
    desk = Desk()
    desk.say(f"width {width}")
    if words:
        desk.say(f"put {numbers(words)}")
    if close:
        desk.say("close")
    return desk


def is_closed(desk):
    """Return whether the desk's stream is closed, by a word that is never one."""
    return type(caught(desk.say, "put 0")) is Closed


def state(desk):
    return desk.say("held"), desk.say("text"), desk.say("layout"), is_closed(desk)


class DeskCase(unittest.TestCase):
    def check_raises(self, kind, said, desk, **attributes):
        error = caught(desk.say, said)
        self.assertIs(type(error), kind, said)
        for name, value in attributes.items():
            self.assertEqual([type(getattr(error, name)), getattr(error, name)], [type(value), value])
        return error


class Forms(DeskCase):
    def check(self, line):
        """Check that a line is refused if it has none of the forms, and only then."""
        for desk in (Desk(), filled(5, SHORT), filled(5, SHORT, close=True)):
            error = caught(desk.say, line)
            if has_form(line):
                self.assertNotIsInstance(error, BadLine, line)
            else:
                self.assertIs(type(error), BadLine, line)
                self.assertIs(error.line, line)

    def test_values_of_any_kind(self):
        for value in ANY_VALUES + [[line] for line in LINES] + [(line,) for line in LINES]:
            self.assertFalse(has_form(value))
            self.check(value)

    def test_lines_of_each_form(self):
        for line in LINES:
            self.assertTrue(has_form(line))
            self.check(line)

    def test_another_character_at_each_place(self):
        for line in LINES:
            for at in range(len(line) + 1):
                for character in CHARACTERS:
                    self.check(line[:at] + character + line[at:])
                    self.check(line[:at] + character + line[at + 1:])
                self.check(line[:at] + line[at + 1:])

    def test_numbers_behind_each_word(self):
        for name in ("width", "put", "close", "held", "text", "layout", "state", "futures", "", "twin", "given"):
            for many in range(4):
                for written in itertools.product(["0", "5", "05"], repeat=many):
                    self.check(" ".join([name, *written]))

    def test_digits(self):
        for name in ("width", "put", "put 1", "state", "futures"):
            for written in ("0", "1", "9", "10", "1000000000", "9999999999", "10000000000", "12345678901", "00", "01",
                            "0000000001", "00000000001", "+1", "-1", "-", "1_0", "1.0", "a", "", "1\n", "\n", "1,",
                            "1" * 1000):
                self.check(f"{name} {written}")

    def test_other_strings(self):
        for line in ("", " ", "put", "width", "state", "futures", "put -", "WIDTH 5", "Put 2", "put 2 / 3", "close ",
                     " close", "close\n", "\nclose", "put 2\nput 3", "closeheld", "put2", "held text", "width 5 put 2",
                     "put  2", "put 2  3", "put 2 3 ", "state 1 2", "futures 1 2", "width 5 6", "held 1", "done"):
            self.assertFalse(has_form(line))
            self.check(line)

    def test_a_long_line(self):
        desk = filled(5, ())
        line = "put" + " 2" * 9998
        self.assertEqual(desk.say(line), shown(((2, 2),) * 4998))
        self.check_raises(BadLine, line + " 02", desk, line=line + " 02")
        self.assertEqual([desk.say("held"), len(desk.say("text"))], ["2 2", 2 * 9998 - 1])


class WithoutStream(DeskCase):
    def test_each_line(self):
        for line in LINES[1:] + ["put 0", "put 9999999999", "state 0", "futures 0"]:
            self.check_raises(NoStream, line, Desk())

    def test_a_refused_width_brings_none(self):
        desk = Desk()
        for width in (0, GREATEST + 1, 9999999999):
            self.check_raises(BadWidth, f"width {width}", desk, value=width)
            self.check_raises(NoStream, "held", desk)
        self.check_raises(BadLine, "width 05", desk)
        self.check_raises(NoStream, "close", desk)
        self.assertEqual([desk.say("width 5"), desk.say("held")], ["done", "-"])


class Answers(DeskCase):
    def test_width(self):
        for width in (1, 5, GREATEST):
            desk = Desk()
            self.assertEqual(desk.say(f"width {width}"), "done")
            self.assertEqual(state(desk), ("-", "-", "-", False))
            self.assertEqual(desk.say(f"put {width}"), f"{width}")
            self.check_raises(BadWord, f"put {width + 1}", desk, value=width + 1)

    def test_by_name(self):
        desk = Desk()
        self.assertEqual([desk.say(line="width 5"), desk.say(line="put 5")], ["done", "5"])

    def test_a_new_width_in_between(self):
        for close in (False, True):
            desk = filled(5, (2, 2, 3, 1), close)
            self.assertEqual(desk.say("width 6"), "done")
            self.assertEqual(state(desk), ("-", "-", "-", False))
            self.assertEqual([desk.say("put 6"), desk.say("text")], ["6", "6"])
            # The same width begins a new stream, too.
            self.assertEqual([desk.say("width 6"), desk.say("text")], ["done", "-"])

    def test_a_refused_width_changes_nothing(self):
        for close in (False, True):
            desk = filled(5, SHORT, close)
            before = state(desk)
            for width in (0, GREATEST + 1, 9999999999):
                self.check_raises(BadWidth, f"width {width}", desk, value=width)
                self.assertEqual(state(desk), before)

    def test_put_and_close_against_a_stream(self):
        for width, most in [(1, 5), (2, 5), (3, 5), (5, 4)]:
            for text in all_texts(width, most):
                desk, stream = filled(width, ()), Stream(width)
                for word in text:
                    self.assertEqual(desk.say(f"put {word}"), shown(stream.put(word)))
                    self.assertEqual(desk.say("held"), show_text(stream.held))
                self.assertEqual(desk.say("text"), show_text(text))
                self.assertEqual(desk.say("close"), shown(stream.close()))

    def test_several_words_at_once(self):
        chance = random.Random(151)
        for _ in range(200):
            width = chance.choice([1, 3, 5, 12, GREATEST])
            desk, stream, text = filled(width, ()), Stream(width), ()
            for _ in range(chance.randint(1, 5)):
                lot = random_words(chance, width, chance.randint(1, 12))
                text += lot
                self.assertEqual(desk.say(f"put {numbers(lot)}"), shown(stream.put_all(*lot)))
                self.assertEqual(state(desk), (show_text(stream.held), show_text(text),
                                               show_text(best_layout(width, text)), False))
            self.assertEqual(desk.say("close"), shown(stream.close()))
            self.assertEqual(state(desk), ("-", show_text(text), show_text(best_layout(width, text)), True))

    def test_lines_are_joined(self):
        desk = filled(5, ())
        self.assertEqual([desk.say("put 2 2 5 1"), desk.say("put 4"), desk.say("close")], ["2 2 / 5", "1 / 4", "-"])
        desk = filled(6, (3, 2, 2))
        self.assertEqual([desk.say("held"), desk.say("close"), desk.say("held")], ["3 2 2", "3 2 / 2", "-"])

    def test_wrong_words(self):
        for line, value in [("put 0", 0), ("put 6", 6), ("put 5 0 6", 0), ("put 5 6 0", 6),
                            ("put 9999999999", 9999999999), ("put 5 5 5 1000000000", GREATEST)]:
            desk = filled(5, SHORT)
            before = state(desk)
            self.check_raises(BadWord, line, desk, value=value)
            self.assertEqual(state(desk), before)

    def test_layout(self):
        for width, text, answer in [(5, (), "-"), (5, SHORT, "2 3"), (6, (3, 2, 2), "2 3"), (GREATEST, (1,) * 9, "9"),
                                    (1, (1, 1, 1), "1 2 3")]:
            for close in (False, True):
                self.assertEqual(filled(width, text, close).say("layout"), answer)

    def test_states_and_futures(self):
        for width, most in [(1, 4), (2, 4), (3, 4), (5, 3)]:
            for text in all_texts(width, most):
                for close in (False, True):
                    self.check_places(filled(width, text, close), width, text)

    def check_places(self, desk, width, text):
        before = state(desk)
        for place in range(1, len(text) + 1):
            told = desk.say(f"state {place}")
            self.assertEqual(told, state_of(width, text, place))
            answer = desk.say(f"futures {place}")
            if told == "sometimes":
                one, bar, other = answer.partition(" | ")
                self.assertEqual(bar, " | ")
                self.assertTrue(shows_open(width, text, place, (read_text(width, one), read_text(width, other))))
                self.assertEqual((read_text(width, one), read_text(width, other)), two_futures(width, text, place))
            else:
                self.assertEqual(answer, "settled")
        for place in (0, len(text) + 1, 9999999999):
            self.check_raises(BadPlace, f"state {place}", desk, value=place)
            self.check_raises(BadPlace, f"futures {place}", desk, value=place)
        self.assertEqual(state(desk), before)

    def test_an_empty_future_is_shown(self):
        # The future without words ends a line at 2, so one of the two is empty.
        answer = filled(5, (2, 2)).say("futures 2")
        self.assertTrue(answer.startswith("- | "), answer)
        self.assertTrue(filled(5, (2, 2)).say("futures 1").endswith(" | -"))

    def test_three_hundred_words(self):
        text = (2,) * 300
        desk = filled(5, text)
        self.assertEqual(desk.say("layout"), numbers(range(2, 301, 2)))
        self.assertEqual([desk.say("state 298"), desk.say("state 297"), desk.say("state 299"), desk.say("futures 298")],
                         ["always", "never", "sometimes", "settled"])
        self.check_raises(BadPlace, "state 301", desk, value=301)

    def test_more_words(self):
        desk = filled(5, (2,) * 1001)
        self.assertEqual([desk.say("held"), desk.say("text"), desk.say("close")], ["2", numbers((2,) * 1001), "2"])

    def test_kinds(self):
        desk = Desk()
        for line in LINES:
            self.assertIs(type(desk.say(line)), str)


class ClosedStream(DeskCase):
    def test_it_is_still_the_stream(self):
        for text in [(), (2, 2), SHORT, (5,)]:
            desk = filled(5, text)
            layout = desk.say("layout")
            desk.say("close")
            for _ in range(2):
                self.assertEqual([desk.say("held"), desk.say("text"), desk.say("layout")],
                                 ["-", show_text(text), layout])
                self.check_raises(Closed, "close", desk)
                # Closed comes ahead of BadWord, and behind BadLine.
                for line in ("put 1", "put 0", "put 6", "put 2 2"):
                    self.check_raises(Closed, line, desk)
                for line in ("put", "put 01", "close 1"):
                    self.check_raises(BadLine, line, desk, line=line)


class SeveralDesks(DeskCase):
    def test_are_independent(self):
        one, other = filled(5, (2, 2)), filled(5, (2, 2))
        self.assertEqual(one.say("put 3"), "2 2")
        self.assertEqual([other.say("text"), one.say("text")], ["2 2", "2 2 3"])
        one.say("close")
        self.assertEqual([is_closed(one), is_closed(other)], [True, False])
        self.check_raises(NoStream, "text", Desk())


if __name__ == "__main__":
    unittest.main()

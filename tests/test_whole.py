"""Point 4 over the whole program: streams, desks, paragraphs and the functions tell the same."""

import random
import unittest

from settledlines.desk import Desk
from settledlines.layouts import best_layout, lines_of
from settledlines.paragraphs import Paragraph
from settledlines.states import settled_lines, settled_words, states
from settledlines.streams import Stream
from settledlines.strings import read_text, settled_part, show_text, typeset
from support import lines_between, random_words, written

GREATEST = 10 ** 9


def cases(seed, many, most):
    """Yield widths and texts."""
    chance = random.Random(seed)
    for _ in range(many):
        width = chance.choice([1, 2, 3, 5, 6, 8, 20, 60, 1000, GREATEST])
        yield chance, width, random_words(chance, width, chance.randint(1, most))


def words_of(text, lines):
    return tuple(text[begin:end] for begin, end in lines)


class TheSameLines(unittest.TestCase):
    def test_growing_by_the_same_words(self):
        for _, width, text in cases(161, 60, 60):
            stream, desk, paragraph = Stream(width), Desk(), Paragraph(width)
            desk.say(f"width {width}")
            given, said = (), []
            for many, word in enumerate(text, 1):
                given += stream.put(word)
                answer = desk.say(f"put {word}")
                said += [] if answer == "-" else answer.split(" / ")
                paragraph.insert(many - 1, (word,))
                self.check_same(width, text[:many], stream, desk, paragraph, given, said)
            self.check_close(width, text, stream, desk, paragraph)

    def check_same(self, width, words, stream, desk, paragraph, given, said):
        self.assertEqual([given, stream.given], [words_of(words, settled_lines(width, words))] * 2)
        self.assertEqual(said, [show_text(line) for line in given])
        self.assertEqual(words_of(words, paragraph.firm(len(words))), given)
        self.assertEqual([read_text(width, desk.say("held")), stream.held], [words[settled_words(width, words):]] * 2)
        self.assertEqual([read_text(width, desk.say("text")), paragraph.text], [words] * 2)
        self.assertEqual(desk.say("layout"), show_text(paragraph.layout()))
        self.assertEqual(paragraph.layout(), best_layout(width, words))
        self.assertEqual([len(stream), len(paragraph)], [len(words)] * 2)

    def check_close(self, width, text, stream, desk, paragraph):
        places = range(1, len(text) + 1)
        self.assertEqual(tuple(desk.say(f"state {place}") for place in places), states(width, text))
        rest = stream.close()
        self.assertEqual(desk.say("close"), " / ".join(show_text(line) for line in rest) or "-")
        self.assertEqual(stream.given, words_of(text, lines_of(paragraph.layout())))

    def test_words_of_letters(self):
        for _, width, text in cases(162, 60, 40):
            if width > 60:
                continue
            source = written(text)
            stream = Stream(width)
            self.assertEqual(settled_part(width, source), "\n".join(map(written, stream.put_all(*text))))
            stream.close()
            self.assertEqual(typeset(width, source), "\n".join(map(written, stream.given)))
            self.assertEqual(Paragraph.of(source, width), Paragraph(width, text))


class WhatIsGivenStays(unittest.TestCase):
    def test_it_begins_the_best_layout_of_all_further_words(self):
        for chance, width, text in cases(163, 150, 60):
            stream, behind = Stream(width), ()
            for word in text:
                stream.put(word)
                given = stream.given
                behind = random_words(chance, width, chance.randint(0, 6))
                words = text[:len(stream)] + behind
                self.assertEqual(lines_between(words, best_layout(width, words))[:len(given)], given)
            longer = stream.twin()
            longer.put_all(*behind)
            longer.close()
            self.assertEqual(longer.given, lines_between(text + behind, best_layout(width, text + behind)))

    def test_a_word_as_long_as_the_width_gives_all(self):
        for _, width, text in cases(164, 100, 60):
            stream = Stream(width)
            given = stream.put_all(*text)
            lines = stream.put(width)
            self.assertEqual([sum(given + lines, ()), stream.held, stream.close()], [text + (width,), (), ()])

    def test_what_is_held_is_a_text_of_its_own(self):
        for chance, width, text in cases(165, 100, 60):
            stream, behind = Stream(width), random_words(chance, width, 12)
            stream.put_all(*text)
            own = Stream(width)
            self.assertEqual(own.put_all(*stream.held), ())
            for word in behind:
                self.assertEqual(own.put(word), stream.put(word))
                self.assertEqual(own.held, stream.held)
            self.assertEqual(own.close(), stream.close())


if __name__ == "__main__":
    unittest.main()

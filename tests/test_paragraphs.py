"""Point 12: paragraphs."""

import random
import unittest

from settledlines.errors import BadPlace, BadSource, BadText, BadWidth, NothingToUndo
from settledlines.paragraphs import Paragraph
from settledlines.states import settled_lines
from support import (ANY_VALUES, all_texts, caught, grown, is_text, is_word, left_ends, lines_between, random_words,
                     settled_by)

GREATEST = 10 ** 9
MOST = 300
SHORT = (2, 2, 3)


def is_place(text, value):
    return type(value) is int and 0 <= value <= len(text)


def state(paragraph):
    """Return all that a paragraph tells of itself, but for what undo would do."""
    return (paragraph.width, paragraph.text, paragraph.layout(), paragraph.cost(), paragraph.edits(), len(paragraph))


def undone(paragraph):
    """Return the widths and texts of a paragraph as each undo of a twin leaves them."""
    twin = paragraph.twin()
    found = [(twin.width, twin.text)]
    while twin.edits():
        twin.undo()
        found.append((twin.width, twin.text))
    return found


class ParagraphCase(unittest.TestCase):
    def check_raises(self, kind, value, call, *arguments):
        error = caught(call, *arguments)
        self.assertIs(type(error), kind, arguments)
        self.assertIs(error.value, value)

    def check_refused(self, paragraph, kind, value, call, *arguments):
        """Check that an error is raised and nothing is changed."""
        before = state(paragraph), undone(paragraph)
        self.check_raises(kind, value, call, *arguments)
        self.assertEqual((state(paragraph), undone(paragraph)), before)

    def check_like_new(self, paragraph):
        """Check the answers against the definition and against a new paragraph of the same words."""
        width, text = paragraph.width, paragraph.text
        ends = grown(width, text).best()
        self.assertEqual(paragraph.layout(), ends)
        self.assertEqual(paragraph.cost(), sum((width - sum(line) - len(line) + 1) ** 2
                                               for line in lines_between(text, ends)[:-1]))
        self.assertEqual(len(paragraph), len(text))
        new = Paragraph(width, text)
        self.assertEqual([paragraph == new, new == paragraph, paragraph != new], [True, True, False])
        self.assertEqual([new.layout(), new.cost(), len(new)], [paragraph.layout(), paragraph.cost(), len(paragraph)])
        for at in range(len(text) + 1):
            self.assertEqual(paragraph.firm(at), new.firm(at))


class New(ParagraphCase):
    def test_widths_of_any_kind(self):
        for value in ANY_VALUES:
            if is_word(GREATEST, value):
                self.assertEqual(state(Paragraph(value)), (value, (), (), 0, 0, 0))
            else:
                # The width is looked at first.
                for text in [(), (1,), None, [1]]:
                    self.check_raises(BadWidth, value, Paragraph, value, text)
                self.check_raises(BadWidth, value, Paragraph, value)

    def test_texts_of_any_kind(self):
        for width in (1, 2, 5, GREATEST):
            for value in ANY_VALUES + [(width,), (width + 1,), (1, width, 0), (1, width, 1)]:
                if is_text(width, value):
                    paragraph = Paragraph(width, value)
                    self.assertEqual([paragraph.width, paragraph.text, paragraph.edits()], [width, value, 0])
                    self.check_like_new(paragraph)
                else:
                    self.check_raises(BadText, value, Paragraph, width, value)

    def test_number_of_words(self):
        for many in (299, MOST):
            self.assertEqual(len(Paragraph(5, (2,) * many)), many)
        for many in (MOST + 1, 1000):
            text = (2,) * many
            self.check_raises(BadText, text, Paragraph, 5, text)

    def test_by_name(self):
        self.assertEqual(Paragraph(width=5, text=SHORT).text, SHORT)
        self.assertEqual(Paragraph(text=SHORT, width=5), Paragraph(5, SHORT))
        self.assertEqual(Paragraph(width=5).text, ())
        paragraph = Paragraph(5, SHORT)
        self.assertEqual([paragraph.firm(at=3), paragraph.widen(width=7), paragraph.width], [((0, 2),), None, 7])

    def test_properties_cannot_be_set(self):
        paragraph = Paragraph(5, SHORT)
        for name, value in [("width", 5), ("width", 7), ("text", SHORT), ("text", ())]:
            with self.assertRaises(AttributeError):
                setattr(paragraph, name, value)
        self.assertEqual([paragraph.width, paragraph.text, paragraph.edits()], [5, SHORT, 0])


class Edits(ParagraphCase):
    def test_insert_everywhere(self):
        for text in all_texts(3, 3):
            for at in range(len(text) + 1):
                for words in all_texts(3, 2):
                    paragraph = Paragraph(3, text)
                    self.assertIsNone(paragraph.insert(at, words))
                    longer = list(text)
                    longer[at:at] = words
                    self.assertEqual([paragraph.text, paragraph.width, paragraph.edits()], [tuple(longer), 3, 1])
                    self.check_like_new(paragraph)

    def test_remove_everywhere(self):
        for text in all_texts(3, 4):
            for begin in range(len(text) + 1):
                for end in range(begin, len(text) + 1):
                    paragraph = Paragraph(3, text)
                    self.assertIsNone(paragraph.remove(begin, end))
                    rest = tuple(word for at, word in enumerate(text) if not begin <= at < end)
                    self.assertEqual([paragraph.text, paragraph.width, paragraph.edits()], [rest, 3, 1])
                    self.check_like_new(paragraph)

    def test_widen(self):
        for text in all_texts(3, 3):
            for width in range(1, 9):
                paragraph = Paragraph(3, text)
                if width < max(text, default=1):
                    self.check_refused(paragraph, BadWidth, width, paragraph.widen, width)
                else:
                    self.assertIsNone(paragraph.widen(width))
                    self.assertEqual([paragraph.text, paragraph.width, paragraph.edits()], [text, width, 1])
                    self.check_like_new(paragraph)

    def test_words_may_be_as_long_as_the_new_width(self):
        paragraph = Paragraph(5, SHORT)
        paragraph.widen(6)
        self.assertIsNone(paragraph.insert(1, (6,)))
        words = (7,)
        self.check_refused(paragraph, BadText, words, paragraph.insert, 1, words)
        self.check_refused(paragraph, BadWidth, 5, paragraph.widen, 5)
        paragraph.remove(1, 2)
        self.assertIsNone(paragraph.widen(3))
        self.check_refused(paragraph, BadWidth, 2, paragraph.widen, 2)

    def edit(self, chance, paragraph):
        """Edit a paragraph at random."""
        many = len(paragraph)
        what = chance.choice(["insert", "insert", "remove", "widen"])
        if what == "insert":
            paragraph.insert(chance.randint(0, many), random_words(chance, paragraph.width, chance.randint(0, 8)))
        elif what == "remove":
            begin = chance.randint(0, many)
            paragraph.remove(begin, chance.randint(begin, min(many, begin + 6)))
        else:
            least = max(paragraph.text, default=1)
            paragraph.widen(min(GREATEST, chance.choice([least, least + 1, 2 * least, 5 * least, paragraph.width])))

    def test_random_edits_and_undo(self):
        chance = random.Random(131)
        for _ in range(40):
            width = chance.choice([1, 3, 5, 6, 20, GREATEST])
            paragraph = Paragraph(width, random_words(chance, width, chance.randint(0, 8)))
            ahead = []
            for _ in range(30):
                if chance.randint(0, 3) == 0 and ahead:
                    self.assertIsNone(paragraph.undo())
                    self.assertEqual((paragraph.width, paragraph.text), ahead.pop())
                else:
                    ahead.append((paragraph.width, paragraph.text))
                    self.edit(chance, paragraph)
                self.assertEqual(paragraph.edits(), len(ahead))
                self.check_like_new(paragraph)
            self.assertEqual(undone(paragraph), [(paragraph.width, paragraph.text)] + ahead[::-1])


class Undo(ParagraphCase):
    def check_nothing(self, paragraph):
        before = state(paragraph)
        for _ in range(2):
            self.assertIs(type(caught(paragraph.undo)), NothingToUndo)
        self.assertEqual(state(paragraph), before)

    def test_nothing_to_undo(self):
        for paragraph in (Paragraph(5), Paragraph(5, SHORT), Paragraph.of("to be", 5)):
            self.assertEqual(paragraph.edits(), 0)
            self.check_nothing(paragraph)

    def test_each_edit(self):
        for name, arguments, width, text in [
                ("insert", (1, (4, 1)), 5, (2, 4, 1, 2, 3)), ("remove", (0, 2), 5, (3,)), ("widen", (7,), 7, SHORT)]:
            paragraph = Paragraph(5, SHORT)
            self.assertIsNone(getattr(paragraph, name)(*arguments))
            self.assertEqual([paragraph.width, paragraph.text, paragraph.edits()], [width, text, 1])
            self.assertIsNone(paragraph.undo())
            self.assertEqual(state(paragraph), state(Paragraph(5, SHORT)))
            self.check_nothing(paragraph)

    def test_edits_that_change_nothing(self):
        paragraph = Paragraph(5, SHORT)
        edits = [(paragraph.insert, (0, ())), (paragraph.insert, (3, ())), (paragraph.remove, (0, 0)),
                 (paragraph.remove, (3, 3)), (paragraph.widen, (5,))]
        for many, (call, arguments) in enumerate(edits, 1):
            self.assertIsNone(call(*arguments))
            self.assertEqual([paragraph.text, paragraph.width, paragraph.edits()], [SHORT, 5, many])
        paragraph.remove(0, 3)
        for many in range(len(edits), -1, -1):
            self.assertIsNone(paragraph.undo())
            self.assertEqual([paragraph.text, paragraph.width, paragraph.edits()], [SHORT, 5, many])
        self.check_nothing(paragraph)

    def test_undo_is_no_edit(self):
        paragraph = Paragraph(5, SHORT)
        paragraph.widen(6)
        paragraph.widen(7)
        paragraph.undo()
        paragraph.insert(3, (6,))
        self.assertEqual(undone(paragraph), [(6, SHORT + (6,)), (6, SHORT), (5, SHORT)])

    def test_refused_edits_do_not_count(self):
        paragraph = Paragraph(5, SHORT)
        paragraph.insert(0, (1,))
        for call, arguments in [(paragraph.insert, (5, ())), (paragraph.insert, (0, (6,))), (paragraph.remove, (2, 1)),
                                (paragraph.remove, (0, 5)), (paragraph.widen, (2,)), (paragraph.widen, (0,)),
                                (paragraph.insert, (0, (1,) * 297))]:
            self.assertIsNotNone(caught(call, *arguments))
            self.assertEqual([paragraph.edits(), paragraph.text, paragraph.width], [1, (1, 2, 2, 3), 5])
        paragraph.undo()
        self.assertEqual([paragraph.edits(), paragraph.text], [0, SHORT])
        self.check_nothing(paragraph)

    def test_many_edits(self):
        paragraph = Paragraph(5)
        for many in range(1, 1001):
            paragraph.insert(0, (2,)) if many % 2 else paragraph.remove(0, 1)
            self.assertEqual(paragraph.edits(), many)
        for many in range(999, -1, -1):
            paragraph.undo()
            self.assertEqual([paragraph.edits(), len(paragraph)], [many, many % 2])
        self.check_nothing(paragraph)


class Wrong(ParagraphCase):
    def test_insert(self):
        for text in [(), SHORT]:
            for at in ANY_VALUES:
                for words in [(), (1,), (6,), None, [1], at]:
                    paragraph = Paragraph(5, text)
                    if not is_place(text, at):
                        self.check_refused(paragraph, BadPlace, at, paragraph.insert, at, words)
                    elif not is_text(5, words):
                        self.check_refused(paragraph, BadText, words, paragraph.insert, at, words)
                    else:
                        self.assertIsNone(caught(paragraph.insert, at, words))

    def test_inserted_values_of_any_kind(self):
        for at in range(4):
            for words in ANY_VALUES:
                paragraph = Paragraph(5, SHORT)
                if is_text(5, words):
                    self.assertIsNone(paragraph.insert(at, words))
                    self.assertEqual(paragraph.text, SHORT[:at] + words + SHORT[at:])
                else:
                    self.check_refused(paragraph, BadText, words, paragraph.insert, at, words)

    def test_remove(self):
        for text in [(), SHORT]:
            for value in ANY_VALUES:
                for other in [0, 1, 2, 3, 4, -1, True, None, "1", [], (1,)]:
                    self.check_remove(text, value, other)
                    self.check_remove(text, other, value)

    def check_remove(self, text, begin, end):
        paragraph = Paragraph(5, text)
        if not is_place(text, begin):
            self.check_refused(paragraph, BadPlace, begin, paragraph.remove, begin, end)
        elif not is_place(text, end) or end < begin:
            self.check_refused(paragraph, BadPlace, end, paragraph.remove, begin, end)
        else:
            self.assertIsNone(caught(paragraph.remove, begin, end))
            self.assertEqual(paragraph.text, text[:begin] + text[end:])

    def test_widen(self):
        for text in [(), (1,), SHORT, (GREATEST,)]:
            width = max(text, default=5)
            for value in ANY_VALUES:
                paragraph = Paragraph(width, text)
                if is_word(GREATEST, value) and value >= max(text, default=1):
                    self.assertIsNone(paragraph.widen(value))
                    self.assertEqual([paragraph.width, paragraph.text], [value, text])
                else:
                    self.check_refused(paragraph, BadWidth, value, paragraph.widen, value)

    def test_firm(self):
        for text in [(), SHORT]:
            paragraph = Paragraph(5, text)
            for value in ANY_VALUES:
                if is_place(text, value):
                    self.assertEqual(paragraph.firm(value), settled_lines(5, text[:value]))
                else:
                    self.check_refused(paragraph, BadPlace, value, paragraph.firm, value)

    def test_number_of_words(self):
        for many, added in [(299, 1), (0, MOST), (MOST, 0), (150, 150)]:
            for at in (0, many // 2, many):
                paragraph = Paragraph(5, (2,) * many)
                self.assertIsNone(paragraph.insert(at, (3,) * added))
                self.assertEqual(len(paragraph), MOST)
        for many, added in [(299, 2), (MOST, 1), (1, MOST), (MOST, MOST), (150, 151)]:
            for at in (0, many // 2, many):
                paragraph = Paragraph(5, (2,) * many)
                before = state(paragraph)
                error = caught(paragraph.insert, at, (3,) * added)
                self.assertIs(type(error), BadText)
                # Here the new text is what is wrong.
                self.assertEqual(error.value, (2,) * at + (3,) * added + (2,) * (many - at))
                self.assertEqual(state(paragraph), before)

    def test_too_many_words_to_insert(self):
        for many in (0, 1, MOST):
            paragraph = Paragraph(5, (2,) * many)
            for words in [(3,) * (MOST + 1), (3,) * 1000, (3,) * MOST + (6,), (6,) * MOST]:
                self.check_refused(paragraph, BadText, words, paragraph.insert, 0, words)
            at = many + 1
            self.check_refused(paragraph, BadPlace, at, paragraph.insert, at, (3,) * (MOST + 1))

    def test_edits_of_a_full_text(self):
        paragraph = Paragraph(5, (2,) * MOST)
        self.assertIsNone(paragraph.widen(6))
        self.assertIsNone(paragraph.insert(MOST, ()))
        self.assertIsNone(paragraph.remove(1, MOST))
        self.assertIsNone(paragraph.insert(1, (3,) * 299))
        self.assertEqual([len(paragraph), paragraph.edits()], [MOST, 4])


class Firm(ParagraphCase):
    def test_against_all_rows_of_two_words(self):
        for width, most in [(1, 7), (2, 6), (3, 5), (4, 4), (5, 4)]:
            for text in all_texts(width, most):
                paragraph = Paragraph(width, text)
                for at in range(len(text) + 1):
                    expected = settled_by(left_ends(grown(width, text[:at]), 2))
                    self.assertEqual(paragraph.firm(at), expected, (width, text, at))

    def test_kinds(self):
        lines = Paragraph(5, (2, 2, 5)).firm(3)
        self.assertEqual(lines, ((0, 2), (2, 3)))
        self.assertEqual([type(lines), type(lines[0]), type(lines[0][0])], [tuple, tuple, int])

    def test_lines_stay_through_edits(self):
        chance = random.Random(132)
        for _ in range(150):
            width = chance.choice([3, 5, 6, 20, GREATEST])
            paragraph = Paragraph(width, random_words(chance, width, chance.randint(1, 60)))
            at = chance.randint(0, len(paragraph))
            lines = paragraph.firm(at)
            for _ in range(8):
                paragraph.remove(at, len(paragraph))
                paragraph.insert(at, random_words(chance, width, chance.randint(0, 30)))
                ends = paragraph.layout()
                self.assertEqual(tuple(zip((0,) + ends, ends))[:len(lines)], lines)
                self.assertEqual(paragraph.firm(at), lines)

    def test_first_and_last(self):
        text = (2,) * MOST
        paragraph = Paragraph(5, text)
        self.assertEqual(paragraph.firm(0), ())
        self.assertEqual(paragraph.firm(MOST), settled_lines(5, text))
        self.assertEqual(paragraph.firm(MOST)[-1], (296, 298))
        self.assertEqual(Paragraph(5).firm(0), ())


class Twins(ParagraphCase):
    def test_go_on_independently(self):
        paragraph = Paragraph(5, SHORT)
        paragraph.insert(0, (4,))
        paragraph.widen(9)
        twin = paragraph.twin()
        self.assertIs(type(twin), Paragraph)
        self.assertEqual([state(twin), undone(twin)], [state(paragraph), undone(paragraph)])
        paragraph.undo()
        paragraph.remove(0, 4)
        self.assertEqual(undone(twin), [(9, (4,) + SHORT), (5, (4,) + SHORT), (5, SHORT)])
        twin.undo()
        twin.undo()
        twin.insert(3, (1, 1))
        self.assertEqual(undone(paragraph), [(5, ()), (5, (4,) + SHORT), (5, SHORT)])
        self.assertEqual(undone(twin), [(5, SHORT + (1, 1)), (5, SHORT)])

    def test_without_edits(self):
        paragraph = Paragraph(5, SHORT)
        twin = paragraph.twin()
        self.assertIs(type(caught(twin.undo)), NothingToUndo)
        twin.widen(6)
        self.assertEqual([paragraph.edits(), paragraph.width, twin.edits()], [0, 5, 1])
        self.assertIs(type(caught(paragraph.undo)), NothingToUndo)

    def test_undo_can_go_back_to_a_smaller_width(self):
        paragraph = Paragraph(3, (3, 3))
        paragraph.widen(9)
        paragraph.insert(0, (9,))
        twin = paragraph.twin()
        self.assertEqual(undone(twin), [(9, (9, 3, 3)), (9, (3, 3)), (3, (3, 3))])


class Equal(ParagraphCase):
    def check(self, one, other, expected):
        for left, right in [(one, other), (other, one)]:
            self.assertIs(left == right, expected)
            self.assertIs(left != right, not expected)

    def test_paragraphs(self):
        made = [(5, ()), (6, ()), (5, (2,)), (5, SHORT), (6, SHORT), (5, (2, 3, 2)), (5, (2, 2, 3, 1))]
        for one in made:
            for other in made:
                self.check(Paragraph(*one), Paragraph(*other), one == other)

    def test_edits_do_not_matter(self):
        paragraph = Paragraph(5, (2, 2))
        paragraph.insert(2, (3,))
        self.check(paragraph, Paragraph(5, SHORT), True)
        self.check(paragraph, paragraph.twin(), True)
        self.check(paragraph, paragraph, True)
        paragraph.widen(6)
        self.check(paragraph, Paragraph(5, SHORT), False)
        paragraph.undo()
        self.check(paragraph, Paragraph(5, SHORT), True)

    def test_other_values(self):
        class Alike:
            width, text = 5, SHORT
        for paragraph in (Paragraph(5, SHORT), Paragraph(5)):
            for value in ANY_VALUES + [SHORT, (5, SHORT), [5, SHORT], object(), Alike(), Paragraph]:
                self.check(paragraph, value, False)


class Of(ParagraphCase):
    def test_words(self):
        for source, text in [("", ()), ("a", (1,)), ("to be", (2, 2)), ("a bb ccc", (1, 2, 3)), ("z" * 7, (7,))]:
            for paragraph in (Paragraph.of(source, 7), Paragraph.of(source=source, width=7),
                              Paragraph.of(width=7, source=source)):
                self.assertIs(type(paragraph), Paragraph)
                self.assertEqual(state(paragraph), state(Paragraph(7, text)))

    def test_widths_of_any_kind(self):
        for value in ANY_VALUES:
            if not is_word(GREATEST, value):
                # The width is looked at first.
                for source in ("to be", "to  be", None, [1], "z" * 20000):
                    self.check_raises(BadWidth, value, Paragraph.of, source, value)

    def test_sources_of_any_kind(self):
        for value in ANY_VALUES:
            if isinstance(value, str):
                continue
            error = caught(Paragraph.of, value, 5)
            self.assertEqual([type(error), error.position], [BadSource, 0])

    def test_wrong_sources(self):
        # Also if one of its words is too long.
        for source, position in [("to  be", 3), (" to", 0), ("to be ", 6), ("To", 0), ("abcdef g!", 8), ("a\nb", 1)]:
            error = caught(Paragraph.of, source, 5)
            self.assertEqual([type(error), error.position], [BadSource, position])

    def test_wrong_texts(self):
        for source, width, text in [("to be", 1, (2, 2)), ("a bb a", 1, (1, 2, 1)), ("abcdef", 5, (6,)),
                                    ("a " * 300 + "a", 5, (1,) * 301)]:
            error = caught(Paragraph.of, source, width)
            self.assertEqual([type(error), type(error.value), error.value], [BadText, tuple, text])
        self.assertEqual(len(Paragraph.of("a " * 299 + "a", 1)), MOST)

    def test_called_on_an_object(self):
        paragraph = Paragraph(5, SHORT)
        self.assertEqual(paragraph.of("to be", 2), Paragraph(2, (2, 2)))
        self.assertEqual(state(paragraph), state(Paragraph(5, SHORT)))


if __name__ == "__main__":
    unittest.main()

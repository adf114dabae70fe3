"""Texts that are edited."""

from settledlines.errors import BadPlace, BadText, BadWidth, NothingToUndo
from settledlines.layouts import best_cost, best_layout
from settledlines.states import settled_lines
from settledlines.strings import lengths_of, read_words
from settledlines.words import is_text, is_whole_number, is_width


def _check_between(text, value):
    """Raise BadPlace if the value is not an integer from 0 to the number of the words."""
    if not is_whole_number(value) or not 0 <= value <= len(text):
        raise BadPlace(value)


class Paragraph:
    """A text for a width, and what they were before each edit."""

    def __init__(self, width, text=()):
        if not is_width(width):
            raise BadWidth(width)
        if not is_text(width, text):
            raise BadText(text)
        self._width = width
        self._text = text
        # (width, text) ahead of each edit that was not taken back.
        self._before = []

    @property
    def width(self):
        """The width of the lines."""
        return self._width

    @property
    def text(self):
        """The text."""
        return self._text

    def layout(self):
        """Return the best layout."""
        return best_layout(self._width, self._text)

    def cost(self):
        """Return the cost of the best layout."""
        return best_cost(self._width, self._text)

    def insert(self, at, words):
        """Insert a tuple of words ahead of the word at; raise BadPlace, then BadText."""
        _check_between(self._text, at)
        if not is_text(self._width, words):
            raise BadText(words)
        text = self._text[:at] + words + self._text[at:]
        # All of its words are words, so it is no text only if there are too many.
        if not is_text(self._width, text):
            raise BadText(text)
        self._edit(self._width, text)

    def remove(self, begin, end):
        """Remove the words from begin to end - 1; raise BadPlace with the first of the two that is wrong."""
        _check_between(self._text, begin)
        _check_between(self._text, end)
        if end < begin:
            raise BadPlace(end)
        self._edit(self._width, self._text[:begin] + self._text[end:])

    def widen(self, width):
        """Set another width; raise BadWidth if it is none or a word is longer."""
        if not is_width(width) or not is_text(width, self._text):
            raise BadWidth(width)
        self._edit(width, self._text)

    def _edit(self, width, text):
        self._before.append((self._width, self._text))
        self._width = width
        self._text = text

    def undo(self):
        """Take back the last edit that was not taken back yet; raise NothingToUndo."""
        if not self._before:
            raise NothingToUndo()
        self._width, self._text = self._before.pop()

    def edits(self):
        """Return how many edits can be taken back."""
        return len(self._before)

    def firm(self, at):
        """Return the lines (begin, end) that stay whatever the words from at on are replaced by; raise BadPlace."""
        _check_between(self._text, at)
        return settled_lines(self._width, self._text[:at])

    @classmethod
    def of(cls, source, width):
        """Return the paragraph of the lengths of a source's words; raise BadWidth, BadSource, BadText."""
        if not is_width(width):
            raise BadWidth(width)
        return cls(width, lengths_of(read_words(source)))

    def twin(self):
        """Return an independent paragraph with the same text, width and edits."""
        other = Paragraph(self._width, self._text)
        other._before = list(self._before)
        return other

    def __eq__(self, other):
        return isinstance(other, Paragraph) and self._width == other._width and self._text == other._text

    def __len__(self):
        return len(self._text)

"""Widths, words, texts and the lines of a text."""

from settledlines.errors import TooLong

GREATEST_WIDTH = 1000000000
MOST_WORDS = 300


def is_whole_number(value):
    """Return whether the value is an integer and no boolean."""
    return isinstance(value, int) and not isinstance(value, bool)


def is_width(value):
    """Return whether the value is a width."""
    return is_whole_number(value) and 1 <= value <= GREATEST_WIDTH


def is_word(width, value):
    """Return whether the value is a word for this width."""
    return is_whole_number(value) and 1 <= value <= width


def is_text(width, value):
    """Return whether the value is a text for this width."""
    if not isinstance(value, tuple) or len(value) > MOST_WORDS:
        return False
    return all([is_word(width, word) for word in value])


def line_length(text, begin, end):
    """Return the length of a line: its words, and a blank between each two of them."""
    return sum(text[begin:end]) + end - begin - 1


def gap(width, text, begin, end):
    """Return the gap of a line; raise TooLong if the line does not fit."""
    length = line_length(text, begin, end)
    if length > width:
        raise TooLong(length)
    return width - length


def last_end(width, text, begin):
    """Return the greatest end of a line that begins there and fits."""
    end = begin + 1
    length = text[begin]
    while end < len(text) and length + 1 + text[end] <= width:
        length += 1 + text[end]
        end += 1
    return end

"""Texts that are written as words of letters or as numbers."""

from settledlines.errors import BadSource, BadText
from settledlines.layouts import best_layout, lines_of
from settledlines.states import settled_lines
from settledlines.words import is_text

MOST_DIGITS = 10


def _first_wrong(source):
    """Return the index of the first character up to which the string begins no source, its length if there is none."""
    ahead = " "
    for at, letter in enumerate(source):
        # A blank may stand only behind a letter.
        if not "a" <= letter <= "z" and (letter != " " or ahead == " "):
            return at
        ahead = letter
    return len(source)


def read_words(source):
    """Return the tuple of the words of a source; raise BadSource if the value is none."""
    if not isinstance(source, str):
        raise BadSource(0)
    if source == "":
        return ()
    wrong = _first_wrong(source)
    if wrong < len(source) or source.endswith(" "):
        raise BadSource(wrong)
    return tuple(source.split(" "))


def lengths_of(words):
    """Return the tuple of the lengths of the words."""
    return tuple([len(word) for word in words])


def _read_to_print(width, source):
    """Return the words and the text of a source; raise BadSource, then BadText."""
    words = read_words(source)
    text = lengths_of(words)
    if not is_text(width, text):
        raise BadText(text)
    return words, text


def _printed(words, lines):
    """Return the lines as they are printed."""
    return "\n".join([" ".join(words[begin:end]) for begin, end in lines])


def typeset(width, source):
    """Return the best layout of a source as it is printed; raise BadSource, then BadText with the lengths."""
    words, text = _read_to_print(width, source)
    return _printed(words, lines_of(best_layout(width, text)))


def settled_part(width, source):
    """Return the settled lines of a source as they are printed; raise BadSource, then BadText with the lengths."""
    words, text = _read_to_print(width, source)
    return _printed(words, settled_lines(width, text))


def show_text(text):
    """Return the lengths of the words with one blank between, - for the empty text."""
    return " ".join([str(word) for word in text]) or "-"


def is_number(written):
    """Return whether the string is a number of 1 to 10 digits without leading zeros."""
    if not written.isascii() or not written.isdigit() or len(written) > MOST_DIGITS:
        return False
    return written == "0" or not written.startswith("0")


def read_text(width, source):
    """Return the text that is written as show_text writes it; raise BadSource if the value writes none."""
    if not isinstance(source, str):
        raise BadSource(0)
    if source == "-":
        return ()
    parts = source.split(" ")
    if not all([is_number(part) for part in parts]):
        raise BadSource(0)
    text = tuple([int(part) for part in parts])
    if not is_text(width, text):
        raise BadSource(0)
    return text

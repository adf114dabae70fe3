"""A desk that answers lines of words and numbers about a stream."""

from settledlines.errors import BadLine, NoStream
from settledlines.layouts import best_layout
from settledlines.states import state_of, two_futures
from settledlines.streams import Stream
from settledlines.strings import is_number, show_text

# The first words of the lines that have no number, and of those that have one.
ALONE = ("close", "held", "text", "layout")
WITH_NUMBER = ("width", "state", "futures")


def _has_form(name, many):
    """Return whether so many numbers may stand behind the first word of a line."""
    if name == "put":
        return many > 0
    if name in WITH_NUMBER:
        return many == 1
    return name in ALONE and many == 0


def _read_line(line):
    """Return the first word and the list of the numbers of a line; raise BadLine if it has none of the forms."""
    if not isinstance(line, str):
        raise BadLine(line)
    parts = line.split(" ")
    if not _has_form(parts[0], len(parts) - 1) or not all([is_number(part) for part in parts[1:]]):
        raise BadLine(line)
    return parts[0], [int(part) for part in parts[1:]]


def _show_lines(lines):
    """Return lines as they are answered, - for none."""
    return " / ".join([show_text(line) for line in lines]) or "-"


def _all_words(stream):
    """Return the tuple of all words of a stream."""
    return tuple([word for line in stream.given for word in line]) + stream.held


def _show_futures(two):
    """Return the two futures as they are answered, settled for None."""
    if two is None:
        return "settled"
    one, other = two
    return f"{show_text(one)} | {show_text(other)}"


class Desk:
    """Holds the stream that the lines are about, at first none."""

    def __init__(self):
        self._stream = None

    def say(self, line):
        """Return the answer to a line; raise BadLine, NoStream, then what the stream and the functions raise."""
        name, numbers = _read_line(line)
        if name == "width":
            self._stream = Stream(numbers[0])
            return "done"
        if self._stream is None:
            raise NoStream()
        if name == "put":
            return _show_lines(self._stream.put_all(*numbers))
        if name == "close":
            return _show_lines(self._stream.close())
        if name == "held":
            return show_text(self._stream.held)
        return self._tell(name, numbers)

    def _tell(self, name, numbers):
        """Return the answer to a line that asks for something about all words."""
        width = self._stream.width
        text = _all_words(self._stream)
        if name == "text":
            return show_text(text)
        if name == "layout":
            # Ends are shown as lengths are.
            return show_text(best_layout(width, text))
        if name == "state":
            return state_of(width, text, numbers[0])
        return _show_futures(two_futures(width, text, numbers[0]))

"""Words that arrive one by one, and the lines that are given out as soon as they are settled."""

from settledlines.errors import BadWidth, BadWord, Closed
from settledlines.states import settled_end
from settledlines.tables import Table, best_ends, closed_ends
from settledlines.words import is_width, is_word


def _lines_between(words, begin, ends):
    """Return the lines that begin at begin and have these ends, each as the tuple of its words."""
    return tuple([tuple(words[first:last]) for first, last in zip((begin,) + ends, ends)])


class Stream:
    """A text without a greatest length, behind which words are put."""

    def __init__(self, width):
        if not is_width(width):
            raise BadWidth(width)
        self._table = Table(width)
        # How many words the settled lines have.
        self._settled = 0
        self._closed = False

    @property
    def width(self):
        """The width of the lines."""
        return self._table.line_width

    @property
    def given(self):
        """The tuple of all lines that were given out or returned by close."""
        # Read off the table each time, so that a stream is closed by nothing but its mark: __exit__ can do no more.
        ends = best_ends(self._table) if self._closed else closed_ends(self._table, self._settled)
        return _lines_between(self._table.words, 0, ends)

    @property
    def held(self):
        """The tuple of the words that are in none of these lines."""
        return () if self._closed else tuple(self._table.words[self._settled:])

    @property
    def is_closed(self):
        """Whether the stream is closed."""
        return self._closed

    def put(self, word):
        """Add a word and return the lines that are settled now and were not before; raise Closed, then BadWord."""
        return self.put_all(word)

    def put_all(self, *words):
        """Add words and return the lines that are settled now and were not before;
        raise Closed, then BadWord with the first value that is no word."""
        self._check_open()
        for word in words:
            if not is_word(self._table.line_width, word):
                raise BadWord(word)
        for word in words:
            self._table.grow(word)
        begin = self._settled
        # A settled line stays settled, so it is enough to look behind the last word.
        self._settled = settled_end(self._table)
        return _lines_between(self._table.words, begin, closed_ends(self._table, self._settled, begin))

    def close(self):
        """Close the stream and return the lines that were not given out yet; raise Closed."""
        self._check_open()
        self._closed = True
        ends = tuple([end for end in best_ends(self._table) if end > self._settled])
        return _lines_between(self._table.words, self._settled, ends)

    def twin(self):
        """Return an independent stream in the same state."""
        other = Stream(self._table.line_width)
        other._table = self._table.twin()
        other._settled = self._settled
        other._closed = self._closed
        return other

    def _check_open(self):
        if self._closed:
            raise Closed()

    def __len__(self):
        return len(self._table.words)

    def __enter__(self):
        return self

    def __exit__(self, kind, value, trace):
        self._closed = True

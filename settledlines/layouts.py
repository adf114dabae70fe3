"""Layouts of a text, what they cost, and the best ones."""

from settledlines.tables import best_ends, closed_ends, last_begins, table_of
from settledlines.words import gap, is_whole_number, line_length


def is_layout(width, text, value):
    """Return whether the value is a layout of the text."""
    if not isinstance(value, tuple):
        return False
    begin = 0
    for end in value:
        if not is_whole_number(end) or not begin < end <= len(text):
            return False
        if line_length(text, begin, end) > width:
            return False
        begin = end
    return begin == len(text)


def lines_of(layout):
    """Return the lines (begin, end) of a layout."""
    return tuple(zip((0,) + layout, layout))


def _squares(width, text, lines):
    """Return the sum of the squares of the gaps of the lines."""
    return sum([gap(width, text, begin, end) ** 2 for begin, end in lines])


def cost(width, text, layout):
    """Return the cost of a layout, in which its last line is free."""
    return _squares(width, text, lines_of(layout)[:-1])


def full_cost(width, text, layout):
    """Return the cost of a layout with its last line."""
    return _squares(width, text, lines_of(layout))


def best_layout(width, text):
    """Return the latest of all layouts with the least cost."""
    return best_ends(table_of(width, text))


def closed_layout(width, text):
    """Return the latest of all layouts with the least full cost."""
    return closed_ends(table_of(width, text), len(text))


def best_cost(width, text):
    """Return the cost of the best layout."""
    return cost(width, text, best_layout(width, text))


def closed_cost(width, text):
    """Return the full cost of the closed layout."""
    return full_cost(width, text, closed_layout(width, text))


def count_best(width, text):
    """Return how many layouts have the least cost."""
    if not text:
        return 1
    table = table_of(width, text)
    counts = [1]
    for end in range(1, len(text) + 1):
        counts.append(sum([counts[begin] for begin in table.begins[end]]))
    return sum([counts[begin] for begin in last_begins(table)])


def best_layouts(width, text):
    """Yield all layouts with the least cost, each later one ahead of each earlier one."""
    if not text:
        yield ()
        return
    table = table_of(width, text)
    # The layouts that are begun, from their last line on: (begin of what is laid out, its ends).
    waiting = [(begin, (len(text),)) for begin in last_begins(table)[::-1]]
    while waiting:
        begin, ends = waiting.pop()
        if begin == 0:
            yield ends
        for earlier in table.begins[begin][::-1]:
            waiting.append((earlier, (begin,) + ends))

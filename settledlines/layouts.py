"""Layouts of a text, what they cost, and the best ones."""

from settledlines.words import gap, is_whole_number, line_length


def is_layout(width, text, value):
    """Return whether the value is a layout of the text."""
    if not isinstance(value, tuple):
        return False
    begin = 0
    for end in value:
        if not is_whole_number(end) or not begin < end <= len(text):
            return False
        if line_length(text, begin, end) > width:
            return False
        begin = end
    return begin == len(text)


def lines_of(layout):
    """Return the lines (begin, end) of a layout."""
    return tuple(zip((0,) + layout, layout))


def _squares(width, text, lines):
    """Return the sum of the squares of the gaps of the lines."""
    return sum([gap(width, text, begin, end) ** 2 for begin, end in lines])


def cost(width, text, layout):
    """Return the cost of a layout, in which its last line is free."""
    return _squares(width, text, lines_of(layout)[:-1])


def full_cost(width, text, layout):
    """Return the cost of a layout with its last line."""
    return _squares(width, text, lines_of(layout))


def _lines_to(width, text, end):
    """Return (begin, gap) of all lines that end there and fit, the latest begin first."""
    found = []
    begin = end
    # One more than the width, because each word takes a blank with it, the last one too.
    free = width + 1
    while begin > 0 and text[begin - 1] < free:
        begin -= 1
        free -= text[begin] + 1
        found.append((begin, free))
    return found


def _cheapest(rated):
    """Return the least price of the pairs (price, begin), and the begins at that price in their order."""
    least = min([price for price, _ in rated])
    return least, [begin for price, begin in rated if price == least]


def _closed_table(width, text):
    """Return two lists: for the first 0 to n words, the least full cost of a layout of these,
    and the begins of the last lines of all layouts that have it, the latest begin first."""
    costs = [0]
    begins = [[]]
    for end in range(1, len(text) + 1):
        lines = _lines_to(width, text, end)
        least, cheapest = _cheapest([(costs[begin] + free ** 2, begin) for begin, free in lines])
        costs.append(least)
        begins.append(cheapest)
    return costs, begins


def _last_begins(width, text, costs):
    """Return the begins of the last lines of all best layouts of a text with words, the latest first."""
    lines = _lines_to(width, text, len(text))
    return _cheapest([(costs[begin], begin) for begin, _ in lines])[1]


def _latest_ends(begins, many):
    """Return the ends of the latest layout of so many first words that has the least full cost."""
    # Layouts are compared from their last end on, so the latest begin decides at each line.
    ends = []
    end = many
    while end > 0:
        ends.append(end)
        end = begins[end][0]
    return tuple(ends[::-1])


def best_layout(width, text):
    """Return the latest of all layouts with the least cost."""
    if not text:
        return ()
    costs, begins = _closed_table(width, text)
    last_begin = _last_begins(width, text, costs)[0]
    return _latest_ends(begins, last_begin) + (len(text),)


def closed_layout(width, text):
    """Return the latest of all layouts with the least full cost."""
    _, begins = _closed_table(width, text)
    return _latest_ends(begins, len(text))


def best_cost(width, text):
    """Return the cost of the best layout."""
    return cost(width, text, best_layout(width, text))


def closed_cost(width, text):
    """Return the full cost of the closed layout."""
    return full_cost(width, text, closed_layout(width, text))


def count_best(width, text):
    """Return how many layouts have the least cost."""
    if not text:
        return 1
    costs, begins = _closed_table(width, text)
    counts = [1]
    for end in range(1, len(text) + 1):
        counts.append(sum([counts[begin] for begin in begins[end]]))
    return sum([counts[begin] for begin in _last_begins(width, text, costs)])


def best_layouts(width, text):
    """Yield all layouts with the least cost, each later one ahead of each earlier one."""
    if not text:
        yield ()
        return
    costs, begins = _closed_table(width, text)
    # The layouts that are begun, from their last line on: (begin of what is laid out, its ends).
    waiting = [(begin, (len(text),)) for begin in _last_begins(width, text, costs)[::-1]]
    while waiting:
        begin, ends = waiting.pop()
        if begin == 0:
            yield ends
        for earlier in begins[begin][::-1]:
            waiting.append((earlier, (begin,) + ends))

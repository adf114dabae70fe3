"""Where the line begins that goes on behind a text."""

from settledlines.layouts import best_layout
from settledlines.tables import table_of


def _crossings(table):
    """Return (begin, room, cost) of all lines that further words can continue, the latest begin first:
    room is the greatest length that those words may have on the line, cost is that of the lines ahead."""
    found = []
    begin = len(table.words)
    room = table.line_width
    while begin > 0 and room > 0:
        found.append((begin, room, table.costs[begin]))
        begin -= 1
        room -= table.words[begin] + 1
    if room > 0:
        found.append((begin, room, table.costs[begin]))
    return found


def outlook(table):
    """Return what decides how further words are laid out: behind two texts for which it is equal,
    the same words get lines of the same numbers of words, those of the text counted from its end."""
    return tuple([(room, cost - table.costs[-1]) for _, room, cost in _crossings(table)])


def _closing_limit(crossing, later):
    """Return the greatest length up to which a line costs less than a later one, if both are closed."""
    _, room, cost = crossing
    _, other_room, other_cost = later
    # Of the squares of what is left behind length, the difference is linear in the length.
    lead = other_cost + other_room ** 2 - cost - room ** 2
    return min(room, (lead - 1) // (2 * (other_room - room)))


def _open_limit(crossing, later):
    """Return the greatest length up to which a line costs less than a later one, if both are the last line."""
    _, room, cost = crossing
    # A longer word takes lines away and changes no cost.
    return room if cost < later[2] else 0


def _ranges(table, limit):
    """Return the ranges (low, high, start) for a next word, where limit tells up to which length
    the line with the earlier one of two begins costs less."""
    # (high, crossing), the latest begin and the greatest high first: of the crossings so far, this one is chosen for
    # the lengths behind the next high up to high. What an earlier begin takes from them are the lowest lengths.
    kept = []
    for crossing in _crossings(table):
        while kept and limit(crossing, kept[-1][1]) >= kept[-1][0]:
            kept.pop()
        high = limit(crossing, kept[-1][1]) if kept else crossing[1]
        if high > 0:
            kept.append((high, crossing))
    ranges = []
    low = 1
    for high, crossing in kept[::-1]:
        ranges.append((low, high, crossing[0]))
        low = high + 1
    return tuple(ranges)


def closing_ranges(table):
    """Return the ranges (low, high, start) for a next word that is the last one of its line."""
    return _ranges(table, _closing_limit)


def open_ranges(table):
    """Return the ranges (low, high, start) for a next word that is in the last line."""
    return _ranges(table, _open_limit)


def all_starts(table):
    """Return the ascending list of the starts of all futures."""
    return sorted(set([start for _, _, start in closing_ranges(table) + open_ranges(table)]))


def start_of(width, text, future):
    """Return the start of a future that is not empty."""
    ends = best_layout(width, text + future)
    return max([end for end in ends if end <= len(text)], default=0)


def starts(width, text):
    """Return the ascending tuple of the starts of all futures."""
    return tuple(all_starts(table_of(width, text)))


def closing_starts(width, text):
    """Return the ranges (low, high, start) of the futures (u, width)."""
    return closing_ranges(table_of(width, text))


def open_starts(width, text):
    """Return the ranges (low, high, start) of the futures (u,)."""
    return open_ranges(table_of(width, text))

"""Where the line begins that goes on behind a text."""

from settledlines.layouts import best_layout
from settledlines.tables import cheapest, table_of


def _crossings(table):
    """Return (begin, room, cost) of all lines that further words can continue, the latest begin first:
    room is the greatest length that those words may have on the line, cost is that of the lines ahead."""
    found = []
    begin = len(table.words)
    room = table.line_width
    while begin > 0 and room > 0:
        found.append((begin, room, table.costs[begin]))
        begin -= 1
        room -= table.words[begin] + 1
    if room > 0:
        found.append((begin, room, table.costs[begin]))
    return found


def outlook(table):
    """Return what decides how further words are laid out: behind two texts for which it is equal,
    the same words get lines of the same numbers of words, those of the text counted from its end."""
    return tuple([(room, cost - table.costs[-1]) for _, room, cost in _crossings(table)])


def _closing_limit(chosen, later):
    """Return the greatest length up to which the chosen line costs less than each later one, if both are closed."""
    _, room, cost = chosen
    limits = [room]
    for _, other_room, other_cost in later:
        # Of the squares of what is left behind length, the difference is linear in the length.
        lead = other_cost + other_room ** 2 - cost - room ** 2
        limits.append((lead - 1) // (2 * (other_room - room)))
    return min(limits)


def closing_ranges(table):
    """Return the ranges (low, high, start) for a next word that is the last one of its line."""
    crossings = _crossings(table)
    ranges = []
    low = 1
    while low <= table.line_width:
        rated = [(cost + (room - low) ** 2, begin) for begin, room, cost in crossings if room >= low]
        start = cheapest(rated)[1][0]
        at = len(table.words) - start
        high = _closing_limit(crossings[at], crossings[:at])
        ranges.append((low, high, start))
        low = high + 1
    return tuple(ranges)


def open_ranges(table):
    """Return the ranges (low, high, start) for a next word that is in the last line."""
    crossings = _crossings(table)
    ranges = []
    low = 1
    while low <= table.line_width:
        start = cheapest([(cost, begin) for begin, room, cost in crossings if room >= low])[1][0]
        # A longer word takes lines away and changes no cost, so the start stays as long as its line has room.
        _, high, _ = crossings[len(table.words) - start]
        ranges.append((low, high, start))
        low = high + 1
    return tuple(ranges)


def all_starts(table):
    """Return the ascending list of the starts of all futures."""
    return sorted(set([start for _, _, start in closing_ranges(table) + open_ranges(table)]))


def start_of(width, text, future):
    """Return the start of a future that is not empty."""
    ends = best_layout(width, text + future)
    return max([end for end in ends if end <= len(text)], default=0)


def starts(width, text):
    """Return the ascending tuple of the starts of all futures."""
    return tuple(all_starts(table_of(width, text)))


def closing_starts(width, text):
    """Return the ranges (low, high, start) of the futures (u, width)."""
    return closing_ranges(table_of(width, text))


def open_starts(width, text):
    """Return the ranges (low, high, start) of the futures (u,)."""
    return open_ranges(table_of(width, text))

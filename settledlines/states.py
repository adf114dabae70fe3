"""Which places always, never or sometimes end a line, and which lines are settled."""

from settledlines.errors import BadPlace
from settledlines.layouts import best_layout, lines_of
from settledlines.starts import all_starts, closing_ranges, open_ranges
from settledlines.tables import best_ends, closed_ends, table_of
from settledlines.words import is_text, is_whole_number


def check_place(text, value):
    """Raise BadPlace if the value is not a place of the text."""
    if not is_whole_number(value) or not 1 <= value <= len(text):
        raise BadPlace(value)


def _tellers(table):
    """Return (future, ends in the text) of futures that tell everything, those of fewer words first."""
    found = [((), best_ends(table))]
    for word, _, start in open_ranges(table):
        found.append(((word,), closed_ends(table, start)))
    for word, _, start in closing_ranges(table):
        found.append(((word, table.line_width), closed_ends(table, start)))
    return found


def states_in(table):
    """Return the list of the states of all places."""
    tellers = _tellers(table)
    counts = [0] * (len(table.words) + 1)
    for _, ends in tellers:
        for end in ends:
            counts[end] += 1
    names = {0: "never", len(tellers): "always"}
    return [names.get(count, "sometimes") for count in counts[1:]]


def state_of(width, text, place):
    """Return "always", "never" or "sometimes"; raise BadPlace if the place is none."""
    check_place(text, place)
    return states_in(table_of(width, text))[place - 1]


def states(width, text):
    """Return the states of the places 1 to n."""
    return tuple(states_in(table_of(width, text)))


def settled_end(table):
    """Return the number of the words in the settled lines."""
    # The lines that the closed layouts up to all starts have in common: the best layout of the text alone has
    # these, too, for its last line is that of the closed layout, or it begins at a start.
    starts_here = all_starts(table)
    waiting = set(starts_here)
    end = starts_here[-1]
    while len(waiting) > 1:
        if end in waiting:
            # The greatest end is in none of the other layouts, so the line that ends there is not common.
            waiting.discard(end)
            waiting.add(table.begins[end][0])
        end -= 1
    return sorted(waiting)[0]


def settled_lines(width, text):
    """Return the tuple of the settled lines (begin, end)."""
    table = table_of(width, text)
    return lines_of(closed_ends(table, settled_end(table)))


def settled_words(width, text):
    """Return the number of the words in the settled lines."""
    return settled_end(table_of(width, text))


def two_futures(width, text, place):
    """Return None if the place is always or never an end, otherwise a future that ends a line there
    and one that does not, both as short as any; raise BadPlace if the place is none."""
    check_place(text, place)
    tellers = _tellers(table_of(width, text))
    ending = [future for future, ends in tellers if place in ends]
    other = [future for future, ends in tellers if place not in ends]
    if not ending or not other:
        return None
    return ending[0], other[0]


def _ends_line(width, text, place, future):
    """Return whether the future ends a line at the place."""
    return place in best_layout(width, text + future)


def shows_open(width, text, place, value):
    """Return whether the value is a tuple of a future that ends a line at the place and one that does not;
    raise BadPlace if the place is none."""
    check_place(text, place)
    if not isinstance(value, tuple) or len(value) != 2:
        return False
    one, other = value
    if not is_text(width, one) or not is_text(width, other):
        return False
    return _ends_line(width, text, place, one) and not _ends_line(width, text, place, other)

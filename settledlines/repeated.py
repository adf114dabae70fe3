"""How many words are held back, also if a pattern of words is repeated without end."""

from settledlines.starts import all_starts, outlook
from settledlines.states import settled_end
from settledlines.tables import table_of


def held_words(width, text):
    """Return the number of the words behind the settled lines."""
    return len(text) - settled_end(table_of(width, text))


def _grow_all(table, words):
    for word in words:
        table.grow(word)


def _repeat_until_known(table, pattern):
    """Put the pattern behind the text again and again, until it has the effect that it had before.

    Return, for each time of the last round, the number of words then and their starts.
    """
    times = []
    seen = {}
    known = outlook(table)
    while known not in seen:
        seen[known] = len(times)
        _grow_all(table, pattern)
        times.append((len(table.words), all_starts(table)))
        known = outlook(table)
    return times[seen[known]:]


def _last_line_words(table, many):
    """Return by end, modulo so many words, how many words the last line of the closed layout up to there has,
    for the ends at the so many last words."""
    ends = range(len(table.words) - many + 1, len(table.words) + 1)
    return {end % many: end - table.begins[end][0] for end in ends}


def _common_end(ends, line_words):
    """Return the greatest common end of the closed layouts up to these ends, None if they never meet;
    the lines are those of a text without beginning, whose lines repeat with the ends modulo len(line_words)."""
    seen = set()
    while len(ends) > 1:
        last = ends[-1]
        shape = (last % len(line_words), tuple([last - end for end in ends]))
        if shape in seen:
            return None
        seen.add(shape)
        begin = last - line_words[last % len(line_words)]
        ends = sorted(set(ends[:-1] + [begin]))
    return ends[0]


def lag(width, start, pattern):
    """Return the greatest number of held words that recurs for ever if the pattern is repeated behind start,
    None if the numbers are not bounded."""
    table = table_of(width, start)
    times = _repeat_until_known(table, pattern)
    line_words = _last_line_words(table, len(times) * len(pattern))
    held = []
    for many, ends in times:
        # Far from the beginning the text looks like one without beginning.
        common = _common_end(ends, line_words)
        if common is None:
            return None
        held.append(many - common)
    return max(held)

"""The next words that settle a place."""

from settledlines.states import check_place, states_in
from settledlines.tables import table_of


def _settling(width, text, place):
    """Return the ascending list of all next words that settle the place."""
    table = table_of(width, text)
    found = []
    for word in range(1, width + 1):
        longer = table.twin()
        longer.grow(word)
        if states_in(longer)[place - 1] != "sometimes":
            found.append(word)
    return found


def settling_words(width, text, place):
    """Return the ranges (low, high) of the next words that settle the place; raise BadPlace if the place is none."""
    check_place(text, place)
    words = _settling(width, text, place)
    lows = [word for word in words if word - 1 not in words]
    highs = [word for word in words if word + 1 not in words]
    return tuple(zip(lows, highs))


def least_settling(width, text, place):
    """Return the least next word that settles the place; raise BadPlace if the place is none."""
    check_place(text, place)
    return _settling(width, text, place)[0]

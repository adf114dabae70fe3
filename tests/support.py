"""What several tests share: values of any kind, and answers found by going through all layouts."""

import itertools


def nested(depth, wrap):
    """Return a value that is wrapped so many times."""
    value = 1
    for _ in range(depth):
        value = wrap(value)
    return value


# None of these is an integer or a tuple.
OTHER_VALUES = [
    True, False, None, "", "1", "a\nb", "x" * 20000, [], [1], [1, 2], [[1], (2,)], {}, {1: 2}, {"a": [1]},
    nested(30, lambda value: [value]), nested(30, lambda value: {"a": value}),
]

TUPLES = [
    (), (1,), (1, 2), (2, 1), (True,), (False,), (None,), ("1",), ("",), ([1],), ((1,),), ((),), ({},), (1, True),
    (1, None), (1, "2"), (1, [2]), (0,), (-1,), (1, 0), (10 ** 30,), nested(30, lambda value: (value,)),
]

INTEGERS = [-10 ** 5000, -10 ** 30, -2, -1, 0, 1, 2, 3, 10 ** 9 - 1, 10 ** 9, 10 ** 9 + 1, 10 ** 30, 10 ** 5000]

ANY_VALUES = OTHER_VALUES + TUPLES + INTEGERS


def written(words):
    """Return a line as it would be printed."""
    return " ".join("x" * word for word in words)


def all_layouts(width, text):
    """Return all layouts of a text, each later one ahead of each earlier one."""
    if not text:
        return [()]
    found = []
    inner = range(1, len(text))
    for many in range(len(text)):
        for cuts in itertools.combinations(inner, many):
            ends = cuts + (len(text),)
            if all(len(written(text[b:e])) <= width for b, e in zip((0,) + ends, ends)):
                found.append(ends)
    return sorted(found, key=lambda ends: ends[::-1], reverse=True)


def squares(width, text, ends):
    """Return the squares of the gaps of all lines of a layout, in order."""
    return [(width - len(written(text[b:e]))) ** 2 for b, e in zip((0,) + ends, ends)]


def all_texts(width, most):
    """Yield all texts for this width of at most so many words."""
    for many in range(most + 1):
        yield from itertools.product(range(1, width + 1), repeat=many)

"""What several tests share: values of any kind, and answers found by going through all layouts."""

import itertools


def nested(depth, wrap):
    """Return a value that is wrapped so many times."""
    value = 1
    for _ in range(depth):
        value = wrap(value)
    return value


# None of these is an integer or a tuple.
OTHER_VALUES = [
    True, False, None, "", "1", "a\nb", "x" * 20000, [], [1], [1, 2], [[1], (2,)], {}, {1: 2}, {"a": [1]},
    nested(30, lambda value: [value]), nested(30, lambda value: {"a": value}),
]

TUPLES = [
    (), (1,), (1, 2), (2, 1), (True,), (False,), (None,), ("1",), ("",), ([1],), ((1,),), ((),), ({},), (1, True),
    (1, None), (1, "2"), (1, [2]), (0,), (-1,), (1, 0), (10 ** 30,), nested(30, lambda value: (value,)),
]

INTEGERS = [-10 ** 5000, -10 ** 30, -2, -1, 0, 1, 2, 3, 10 ** 9 - 1, 10 ** 9, 10 ** 9 + 1, 10 ** 30, 10 ** 5000]

ANY_VALUES = OTHER_VALUES + TUPLES + INTEGERS


def written(words):
    """Return a line as it would be printed."""
    return " ".join("x" * word for word in words)


def all_layouts(width, text):
    """Return all layouts of a text, each later one ahead of each earlier one."""
    if not text:
        return [()]
    found = []
    inner = range(1, len(text))
    for many in range(len(text)):
        for cuts in itertools.combinations(inner, many):
            ends = cuts + (len(text),)
            if all(len(written(text[b:e])) <= width for b, e in zip((0,) + ends, ends)):
                found.append(ends)
    return sorted(found, key=lambda ends: ends[::-1], reverse=True)


def squares(width, text, ends):
    """Return the squares of the gaps of all lines of a layout, in order."""
    return [(width - len(written(text[b:e]))) ** 2 for b, e in zip((0,) + ends, ends)]


def all_texts(width, most):
    """Yield all texts for this width of at most so many words."""
    for many in range(most + 1):
        yield from itertools.product(range(1, width + 1), repeat=many)


class Grown:
    """A text that is laid out anew with each word, by whole layouts, held from their last end on."""

    def __init__(self, width, text=(), closed=((0, ()),)):
        self.width = width
        self.text = text
        # For the first 0 to n words: (least full cost negated, ends of the latest such layout).
        self.closed = closed

    def choices(self, text, square_last):
        """Return (cost negated, ends) of the last lines of a text that has at most one word more than is laid out."""
        found = []
        length = -1
        for begin in range(len(text) - 1, -1, -1):
            length += 1 + text[begin]
            if length > self.width:
                break
            price, ends = self.closed[begin]
            found.append((price - (self.width - length) ** 2 * square_last, (len(text),) + ends))
        return found

    def then(self, word):
        text = self.text + (word,)
        return Grown(self.width, text, self.closed + (max(self.choices(text, 1)),))

    def best(self):
        """Return the best layout."""
        if not self.text:
            return ()
        return max(self.choices(self.text, 0))[1][::-1]


def grown(width, text):
    """Return a text that is laid out, after each of its words."""
    found = Grown(width)
    for word in text:
        found = found.then(word)
    return found


def left_ends(laid_out, most):
    """Return a dict: for each way in which futures of at most so many words lay out a text, the least number of
    words of such a future. A way is (the ends in the text, whether the future has words)."""
    many = len(laid_out.text)
    found = {}
    waiting = [(laid_out, 0)]
    while waiting:
        longer, words = waiting.pop()
        way = (tuple(end for end in longer.best() if end <= many), words > 0)
        found[way] = min(found.get(way, words), words)
        if words < most:
            waiting.extend((longer.then(word), words + 1) for word in range(1, longer.width + 1))
    return found


def states_by(ways, many):
    """Return the states of the places 1 to many, as the ways of left_ends tell them."""
    each = [set(ends) for ends, _ in ways]
    words = []
    for place in range(1, many + 1):
        ending = sum(place in ends for ends in each)
        words.append("always" if ending == len(each) else "sometimes" if ending else "never")
    return tuple(words)


def settled_by(ways):
    """Return the lines of a text that are in all ways of left_ends."""
    return tuple(sorted(set.intersection(*[set(zip((0,) + ends, ends)) for ends, _ in ways])))


def lines_between(text, ends):
    """Return the lines with these ends as the tuples of their words."""
    return tuple(text[begin:end] for begin, end in zip((0,) + ends, ends))


def settled_words_by(laid_out, most):
    """Return the settled lines of a text, as the tuples of their words, by all futures of at most so many words."""
    return lines_between(laid_out.text, tuple(end for _, end in settled_by(left_ends(laid_out, most))))


def random_words(chance, width, many):
    """Return so many words, none longer than a random part of the width."""
    longest = chance.randint(1, width)
    return tuple(chance.randint(1, longest) for _ in range(many))


def is_word(width, value):
    return type(value) is int and 1 <= value <= width


def is_text(width, value):
    return type(value) is tuple and len(value) <= 300 and all(is_word(width, word) for word in value)


def caught(call, *arguments):
    """Return the error that a call raises, None if it raises none."""
    try:
        call(*arguments)
    except Exception as error:  # The tests look at its kind.
        return error
    return None

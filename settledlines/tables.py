"""The least full costs of the first words of a text, word by word, and what is read off them."""


def cheapest(rated):
    """Return the least price of the pairs (price, begin), and the begins at that price in their order."""
    least = min([price for price, _ in rated])
    return least, [begin for price, begin in rated if price == least]


def last_lines(width, words):
    """Return (begin, gap) of all lines that end with the last word and fit, the latest begin first."""
    found = []
    begin = len(words)
    # One more than the width, because each word takes a blank with it, the last one too.
    free = width + 1
    while begin > 0 and words[begin - 1] < free:
        begin -= 1
        free -= words[begin] + 1
        found.append((begin, free))
    return found


class Table:
    """A text that grows by words, and for the first 0, 1, 2 .. words of it, by their number:
    in costs the least full cost of a layout of them, in begins the begins of the last lines
    of all layouts that have it, the latest begin first."""

    def __init__(self, line_width):
        self.line_width = line_width
        self.words = []
        self.costs = [0]
        self.begins = [[]]

    def grow(self, word):
        """Put a word behind the text."""
        self.words.append(word)
        lines = last_lines(self.line_width, self.words)
        least, begins = cheapest([(self.costs[begin] + free ** 2, begin) for begin, free in lines])
        self.costs.append(least)
        self.begins.append(begins)

    def twin(self):
        """Return an independent table of the same text."""
        other = Table(self.line_width)
        other.words = list(self.words)
        other.costs = list(self.costs)
        other.begins = list(self.begins)
        return other


def table_of(width, text):
    """Return the table of a text."""
    table = Table(width)
    for word in text:
        table.grow(word)
    return table


def last_begins(table):
    """Return the begins of the last lines of all best layouts of a text with words, the latest first."""
    lines = last_lines(table.line_width, table.words)
    return cheapest([(table.costs[begin], begin) for begin, _ in lines])[1]


def closed_ends(table, many, begin=0):
    """Return the ends behind a begin of the closed layout of so many first words."""
    # Layouts are compared from their last end on, so the latest begin decides at each line.
    ends = []
    end = many
    while end > begin:
        ends.append(end)
        end = table.begins[end][0]
    return tuple(ends[::-1])


def best_ends(table):
    """Return the best layout of the text."""
    if not table.words:
        return ()
    return closed_ends(table, last_begins(table)[0]) + (len(table.words),)

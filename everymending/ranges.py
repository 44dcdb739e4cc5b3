"""The least and the greatest numbers of answers, and sums of a column of them, over all mendings.

Each row that answers in some mendings only gains its weight in these. An entry is a pair of its
lots ([41]) and its weight.
"""

from everymending.joining import parts_apart
from everymending.lots import LotSearch, Rivalry, with_choice
from everymending.mendings import exchanged, mending_at
from everymending.questions import put_row
from everymending.sure import possible_rows, sure_rows


def merged(entries):
    """Returns what is gained in any case, and the tuple of the entries that are not yet decided."""
    weights = {}
    for lots, weight in entries:
        weights[lots] = weights.get(lots, 0) + weight
    gained = weights.get(((),), 0)
    left = [(lots, weight) for lots, weight in weights.items()
            if weight != 0 and lots not in ((), ((),))]
    return (gained, tuple(sorted(left)))


def after_choice(entries, number, block):
    """Returns what is gained at once by a choice, and the tuple of the entries that are left."""
    return merged([(with_choice(lots, number, block), weight) for lots, weight in entries])


def hope(entries):
    """Returns what the entries cannot gain more than."""
    return sum([weight for _, weight in entries if weight > 0])


class Ranging:
    """Finds choices that gain most; for equal entries only once."""

    def __init__(self, rivalry):
        self.rivalry = rivalry
        self.known = {}

    def parts_of(self, entries):
        """Returns the list of the smallest parts of the entries that share no blocks."""
        marked = [(entry, self.rivalry.marks_of(entry[0])) for entry in entries]
        return [tuple(sorted(part)) for part in parts_apart(marked)]

    def most(self, entries):
        """Returns the most that the entries gain, and the tuple of the numbers to be chosen."""
        gain = 0
        chosen = ()
        for part in self.parts_of(entries):
            if part not in self.known:
                self.known[part] = self.most_of_part(part)
            more, numbers = self.known[part]
            gain += more
            chosen = chosen + numbers
        return (gain, chosen)

    def most_of_part(self, part):
        """Finds the most for a part: chooses in its first block, and goes on."""
        first = min([number for lots, _ in part for lot in lots for number in lot])
        block = self.rivalry.blocks[first]
        best = None
        for number in block:
            gained, left = after_choice(part, number, block)
            if best is None or gained + hope(left) > best[0]:
                further, numbers = self.most(left)
                if best is None or gained + further > best[0]:
                    best = (gained + further, (number,) + numbers)
        return best


def mending_with(schema, store, numbers):
    """Returns a mending with the facts of these numbers."""
    mending = mending_at(schema, store, 0)
    for number in numbers:
        mending = exchanged(schema, mending, store[number])
    return mending


def range_of_weights(schema, store, question, weights):
    """Returns the range of the sums of the weights of the rows that answer.

    `weights` is a dict of the weights of all possible rows.
    """
    rivalry = Rivalry(schema, store)
    sure = {row: True for row in sure_rows(schema, store, question)}
    # Sure rows are in each sum: so they need no lots.
    always = sum([weights[row] for row in sure])
    entries = [(LotSearch(rivalry, put_row(question, row)).lots(), weight)
               for row, weight in weights.items() if weight != 0 and row not in sure]
    ranging = Ranging(rivalry)
    _, gains = merged(entries)
    _, losses = merged([(lots, -weight) for lots, weight in entries])
    lost, low = ranging.most(losses)
    gained, high = ranging.most(gains)
    return (always - lost, mending_with(schema, store, low),
            always + gained, mending_with(schema, store, high))


def range_of(schema, store, question):
    """Returns the range of the number of the rows that answer the question."""
    weights = {row: 1 for row in possible_rows(schema, store, question)}
    return range_of_weights(schema, store, question, weights)


def range_of_sums(schema, store, question, column):
    """Returns the range of the sums of the integers in this column of the rows that answer."""
    weights = {}
    for row in possible_rows(schema, store, question):
        weights[row] = row[column] if isinstance(row[column], int) else 0
    return range_of_weights(schema, store, question, weights)

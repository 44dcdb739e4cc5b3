"""Counts the mendings that bear a closed question, and finds them by number."""

from everymending.blocks import blocks_of
from everymending.trees import (
    block_to_split, leaf_of, narrowed, ways_of, whole_case, with_row, without)


class Counting:
    """Counts for a closed question; equal cases are counted only once."""

    def __init__(self, question):
        self.question = question
        self.known = {}

    def bearing_ways(self, case):
        """Returns the number of the ways that the case leaves in which the question holds."""
        return ways_of(case) - self.failing_ways(case)

    def failing_ways(self, wide):
        """Returns the number of the ways that the case leaves in which the question fails."""
        case = narrowed(self.question, wide)
        if case not in self.known:
            self.known[case] = self.counted(case)
        # The blocks that do not matter multiply the ways.
        return self.known[case] * (ways_of(wide) // ways_of(case))

    def counted(self, case):
        """Counts the ways that the narrowed case leaves in which the question fails."""
        if leaf_of(self.question, case) is not None:
            return 0
        block = block_to_split(self.question, case)
        if block is None:
            return ways_of(case)
        failing = 0
        if block[3] > 0:
            failing = block[3] * self.failing_ways(without(case, block))
        for row in block[2]:
            failing += self.failing_ways(with_row(case, block, row))
        return failing


def count_bearing(schema, store, question):
    """Returns the number of the mendings that bear the question."""
    return Counting(question).bearing_ways(whole_case(blocks_of(schema, store)))


def bearing_at(schema, store, question, n):
    """Returns the n-th mending that bears the question, or None if there is none."""
    counting = Counting(question)
    whole = whole_case(blocks_of(schema, store))
    case = whole
    if n < 0 or n >= counting.bearing_ways(case):
        return None
    found = []
    left = n
    for block in whole:
        for row in block[2]:
            further = with_row(case, block, row)
            many = counting.bearing_ways(further)
            if left < many:
                found.append((block[0], row))
                case = further
                break
            left -= many
    return tuple(found)

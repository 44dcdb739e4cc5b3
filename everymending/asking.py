"""Strategies: which blocks to ask about until it is told whether a closed question holds.

What has been asked is told by the lots ([41]) that are left of the question: nothing else matters
of the choices. A part is lots that do not fall apart into some and others that share no blocks.
"""

from everymending.blocks import place_of
from everymending.joining import parts_apart
from everymending.lots import LotSearch, Rivalry, with_choice
from everymending.planning import tells_each_row

# So many strategies with the same block in front are kept, to go through equal ones only once.
MOST_KEPT = 16


class Asking:
    """A store, and what is told by lots. What is found out about equal lots is found out once."""

    def __init__(self, schema, store):
        self.store = store
        self.rivalry = Rivalry(schema, store)
        self.places = {block: place_of(schema, store[block[0]])
                       for block in self.rivalry.blocks.values()}
        self.verdicts = {}
        self.firsts = {}
        self.strategies = {}

    def parts_of(self, lots):
        """Returns the list of the parts of the lots."""
        marked = [(lot, self.rivalry.marks_of((lot,))) for lot in lots]
        return [tuple(sorted(part)) for part in parts_apart(marked)]

    def blocks_of_part(self, part):
        """Returns the list of the blocks of a part, those in most lots first."""
        many = {}
        for lot in part:
            for number in lot:
                block = self.rivalry.blocks[number]
                many[block] = many.get(block, 0) + 1
        return sorted(many, key=lambda block: -many[block])

    def are_sure(self, lots):
        """Tells whether the lots hold in each mending."""
        for part in self.parts_of(lots):
            if self.part_is_sure(part):
                return True
        return False

    def part_is_sure(self, part):
        """Tells whether the part holds in each mending."""
        if part == ((),):
            return True
        if part not in self.verdicts:
            self.verdicts[part] = self.found_sure(part)
        return self.verdicts[part]

    def found_sure(self, part):
        """Finds out whether the part holds in each mending."""
        block = self.blocks_of_part(part)[0]
        for number in block:
            if not self.are_sure(with_choice(part, number, block)):
                return False
        return True

    def can_tell(self, lots, most):
        """Tells whether there is a strategy of at most this depth for the lots.

        As long as no part holds, nothing is told about the other ones: so their depths are added.
        """
        if self.are_sure(lots):
            return True
        parts = self.parts_of(lots)
        bounds = [self.first_of(part)[0] for part in parts]
        spare = most - sum(bounds)
        for part, bound in zip(parts, bounds):
            depth = self.depth_of_part(part, bound + spare)
            if depth is None:
                return False
            spare -= depth - bound
        return True

    def first_of(self, part):
        """Returns a bound of the depth of a part that does not always hold, and a block or None.

        If there is a block, the bound is the least depth, and a best strategy can begin with it.
        """
        if part not in self.firsts:
            self.firsts[part] = (lots_apart(part, self.rivalry), None)
        return self.firsts[part]

    def depth_of_part(self, part, most):
        """Returns the least depth for a part that does not always hold, or None if above `most`."""
        bound, block = self.first_of(part)
        while block is None and bound <= most:
            block = self.block_within(part, bound)
            if block is None:
                bound += 1
            self.firsts[part] = (bound, block)
        return bound if bound <= most else None

    def block_within(self, part, most):
        """Returns a block with which a strategy of at most this depth can begin, or None."""
        blocks = self.blocks_of_part(part)
        if len(blocks) <= most:
            return blocks[0]
        for block in blocks:
            left = [with_choice(part, number, block) for number in block]
            if all(self.can_tell(lots, most - 1) for lots in left):
                return block
        return None

    def strategy(self, lots):
        """Returns a best strategy for the lots."""
        if lots not in self.strategies:
            self.strategies[lots] = self.made_strategy(lots)
        return self.strategies[lots]

    def made_strategy(self, lots):
        """Makes a best strategy for the lots."""
        if lots == ():
            return ("tell", 0)
        if self.are_sure(lots):
            return ("tell", 1)
        part = self.parts_of(lots)[0]
        self.depth_of_part(part, len(self.store))
        block = self.first_of(part)[1]
        name, key = self.places[block]
        branches = [(self.store[number][1], self.strategy(with_choice(lots, number, block)))
                    for number in block]
        return ("ask", name, key, tuple(branches))


def lots_apart(part, rivalry):
    """Returns a number of lots of the part of which no two share a block.

    To tell that none of them holds, a fact must be chosen in a block of each.
    """
    many = 0
    used = {}
    for lot in part:
        marks = rivalry.marks_of((lot,))
        if not any(mark in used for mark in marks):
            many += 1
            for mark in marks:
                used[mark] = True
    return many


class StrategyJudging:
    """Judges strategies. While it goes down a strategy, it has the blocks that are asked about."""

    def __init__(self, schema, store, question):
        self.asking = Asking(schema, store)
        self.question = question
        self.asked = {}
        self.kept = {}

    def accepts_whole(self, strategy):
        """Tells whether this is a strategy for the question."""
        lots = LotSearch(self.asking.rivalry, self.question).lots()
        return self.judged(lots, strategy) is not None

    def judged(self, lots, strategy):
        """Returns a dict of the blocks of a strategy for the lots, or None if this is none."""
        if strategy == ("tell", 0):
            return {} if lots == () else None
        if strategy == ("tell", 1):
            return {} if self.asking.are_sure(lots) else None
        if isinstance(strategy, tuple) and len(strategy) == 4 and strategy[0] == "ask":
            return self.judged_ask(lots, strategy)
        return None

    def judged_ask(self, lots, strategy):
        """Returns the dict of the blocks, or None."""
        block = self.block_to_ask(strategy[1], strategy[2])
        if block is None:
            return None
        rows = [self.asking.store[number][1] for number in block]
        if not tells_each_row(strategy[3], rows):
            return None
        kept = self.kept.setdefault((lots, block), [])
        for known, blocks in kept:
            if known == strategy:
                return None if any(other in self.asked for other in blocks) else blocks
        blocks = {block: True}
        for number, (_, branch) in zip(block, strategy[3]):
            self.asked[block] = True
            found = self.judged(with_choice(lots, number, block), branch)
            del self.asked[block]
            if found is None:
                return None
            for other in found:
                blocks[other] = True
        kept.append((strategy, blocks))
        del kept[:-MOST_KEPT]
        return blocks

    def block_to_ask(self, name, key):
        """Returns the block with this name and key if it can be asked about, otherwise None."""
        for block, place in self.asking.places.items():
            if place == (name, key) and block not in self.asked:
                return block
        return None


def judge_strategy(schema, store, question, strategy):
    """Tells whether this is a strategy for the closed question and the store."""
    return StrategyJudging(schema, store, question).accepts_whole(strategy)


def best_strategy(schema, store, question):
    """Returns a strategy of the least depth for the closed question and the store."""
    asking = Asking(schema, store)
    return asking.strategy(LotSearch(asking.rivalry, question).lots())


def depth_of(strategy):
    """Returns the depth of a strategy."""
    return depth_by(strategy, {})


def depth_by(strategy, kept):
    """Returns the depth; the dict has the last strategies with each block, and their depths."""
    if strategy[0] == "tell":
        return 0
    known = kept.setdefault((strategy[1], strategy[2]), [])
    for other, depth in known:
        if other == strategy:
            return depth
    found = 1 + max([depth_by(branch, kept) for _, branch in strategy[3]])
    known.append((strategy, found))
    del known[:-MOST_KEPT]
    return found

"""Decides closed questions by trees of cases, and judges such trees.

A case tells what matters of a store while one block after the other is decided. It is a tuple of
quadruples (name, key, rows, others), one for each block that matters: `rows` are those of its rows
that may be kept and by which a join may still hold; `others` is the number of its rows that may be
kept, but are not among these. It does not matter which one of the others is kept. A block is
settled in a case if it has just one row and no others.
"""

from everymending.blocks import blocks_of, place_of
from everymending.joining import fact_of, reduced, relations_of, some_values
from everymending.planning import tells_each_row
from everymending.questions import variables_of

# So many accepted trees with the same block in front are kept, to judge equal ones only once.
MOST_KEPT = 16


def whole_case(blocks):
    """Returns the case of these blocks in which each row may be kept."""
    return tuple([(name, key, rows, 0) for name, key, rows in blocks])


def is_settled(block):
    """Tells whether the block of a case is settled."""
    return len(block[2]) == 1 and block[3] == 0


def facts_of(blocks):
    """Returns the list of the facts of these blocks of a case."""
    return [(name, row) for name, _, rows, _ in blocks for row in rows]


def ways_of(case):
    """Returns the number of the ways to keep a row of each block of the case."""
    ways = 1
    for _, _, rows, others in case:
        ways = ways * (len(rows) + others)
    return ways


def live_facts(question, facts):
    """Returns a dict; its keys are those of these facts by which a join may still hold."""
    live = {}
    for _, body in question[1]:
        relations = reduced(relations_of(facts, body))
        if relations is not None:
            for atom, (variables, rows) in zip(body, relations):
                for row in rows:
                    values = dict(zip(variables, row))
                    live[fact_of(atom, values)] = True
    return live


def narrowed(question, case):
    """Returns the case without the rows and blocks that it is plain that no join can hold by."""
    live = live_facts(question, facts_of(case))
    found = []
    for name, key, rows, others in case:
        kept = tuple([row for row in rows if (name, row) in live])
        if len(kept) > 0:
            found.append((name, key, kept, others + len(rows) - len(kept)))
    return tuple(found)


def leaf_of(question, case):
    """Returns a leaf of a tree of cases, if a join holds by the settled blocks, otherwise None."""
    facts = facts_of([block for block in case if is_settled(block)])
    for index, (_, body) in enumerate(question[1]):
        values = some_values(relations_of(facts, body))
        if values is not None:
            return ("leaf", index, tuple(sorted(values.items())))
    return None


def block_to_split(question, case):
    """Returns a block of the case to be decided next, or None if the question fails in each way.

    No join holds by the settled blocks. The block is one that a join needs to hold, so that few
    blocks are decided until it does.
    """
    settled_first = sorted(case, key=lambda block: (not is_settled(block), block[3]))
    facts = facts_of(settled_first)
    for _, body in question[1]:
        values = some_values(relations_of(facts, body))
        if values is not None:
            used = [fact_of(atom, values) for atom in body]
            needed = [block for block in settled_first if not is_settled(block)
                      and any([(block[0], row) in used for row in block[2]])]
            return needed[0]
    return None


def with_row(case, block, row):
    """Returns the case in which this row of the block is kept."""
    chosen = (block[0], block[1], (row,), 0)
    return tuple([chosen if other == block else other for other in case])


def without(case, block):
    """Returns the case in which one of the others of the block is kept."""
    return tuple([other for other in case if other != block])


class Deciding:
    """Decides cases of a closed question and a store; trees of equal cases are made only once."""

    def __init__(self, schema, store, question):
        self.question = question
        self.blocks = blocks_of(schema, store)
        self.rows = {(name, key): rows for name, key, rows in self.blocks}
        self.trees = {}

    def decided(self, wide):
        """Returns ("sure", tree), or ("fails", facts) with facts to be chosen, so that it fails."""
        case = narrowed(self.question, wide)
        if case in self.trees:
            return ("sure", self.trees[case])
        tree = leaf_of(self.question, case)
        if tree is None:
            block = block_to_split(self.question, case)
            if block is None:
                return ("fails", ())
            name, key, live, _ = block
            found = {}
            # By the rows that no join can hold by, a failing mending is found soonest.
            for row in sorted(self.rows[name, key], key=lambda one: one in live):
                further = with_row(case, block, row) if row in live else without(case, block)
                verdict, outcome = self.decided(further)
                if verdict == "fails":
                    return ("fails", ((name, row),) + outcome)
                found[row] = outcome
            tree = ("split", name, key, tuple([(one, found[one]) for one in self.rows[name, key]]))
        self.trees[case] = tree
        return ("sure", tree)


def decide(schema, store, question):
    """Returns ("sure", tree) or ("fails", mending) for the closed question."""
    deciding = Deciding(schema, store, question)
    verdict, outcome = deciding.decided(whole_case(deciding.blocks))
    if verdict == "sure":
        return ("sure", outcome)
    chosen = {place_of(schema, fact): fact for fact in outcome}
    mending = [chosen.get((name, key), (name, rows[0])) for name, key, rows in deciding.blocks]
    return ("fails", tuple(mending))


def values_in(join, valuation):
    """Returns the values by variable if this is written like a valuation of the join, or None."""
    variables = variables_of(join)
    if not isinstance(valuation, tuple) or len(valuation) != len(variables):
        return None
    values = {}
    for pair, variable in zip(valuation, variables):
        if not isinstance(pair, tuple) or len(pair) != 2 or pair[0] != variable:
            return None
        if not isinstance(pair[1], (int, str)):
            return None
        values[variable] = pair[1]
    return values


class Judging:
    """Judges trees. While it goes down a tree, it has the choices: the chosen row of each place.

    An accepted tree is told by two dicts: the choices that its leaves need and that it does not
    make itself, and the places of its splits. It is a tree for other choices, too, if these have
    the needed ones, and none of the places. So equal trees need not be gone through again.
    """

    def __init__(self, schema, store, question):
        self.schema = schema
        self.joins = question[1]
        self.rows = {(name, key): rows for name, key, rows in blocks_of(schema, store)}
        self.choices = {}
        self.kept = {}

    def judged(self, tree):
        """Returns the two dicts if this is a tree for the choices, otherwise None."""
        if isinstance(tree, tuple) and len(tree) == 3 and tree[0] == "leaf":
            return self.judged_leaf(tree[1], tree[2])
        if isinstance(tree, tuple) and len(tree) == 4 and tree[0] == "split":
            return self.judged_split(tree)
        return None

    def judged_leaf(self, index, valuation):
        """Returns the two dicts of the leaf, or None."""
        if not isinstance(index, int) or not 0 <= index < len(self.joins):
            return None
        values = values_in(self.joins[index], valuation)
        if values is None:
            return None
        needed = {}
        for atom in self.joins[index][1]:
            fact = fact_of(atom, values)
            place = place_of(self.schema, fact)
            rows = self.rows.get(place, ())
            if fact[1] not in rows:
                return None
            if len(rows) > 1:
                if self.choices.get(place) != fact[1]:
                    return None
                needed[place] = fact[1]
        return (needed, {})

    def judged_split(self, tree):
        """Returns the two dicts of the split, or None."""
        place = self.place_to_split(tree[1], tree[2])
        if place is None or not tells_each_row(tree[3], self.rows[place]):
            return None
        kept = self.kept.setdefault(place, [])
        for known, needed, places in kept:
            if known == tree:
                return (needed, places) if self.serves(needed, places) else None
        needed = {}
        places = {place: True}
        for row, branch in tree[3]:
            self.choices[place] = row
            found = self.judged(branch)
            del self.choices[place]
            if found is None:
                return None
            for other, chosen in found[0].items():
                if other != place:
                    needed[other] = chosen
            for other in found[1]:
                places[other] = True
        kept.append((tree, needed, places))
        del kept[:-MOST_KEPT]
        return (needed, places)

    def place_to_split(self, name, key):
        """Returns the pair of the name and the key if its block can be split, otherwise None."""
        for place in self.rows:
            if place == (name, key) and len(self.rows[place]) > 1 and place not in self.choices:
                return place
        return None

    def serves(self, needed, places):
        """Tells whether an accepted tree with these dicts is a tree for the choices."""
        if not all(self.choices.get(place) == row for place, row in needed.items()):
            return False
        return not any(place in self.choices for place in places)


def judge_tree(schema, store, question, tree):
    """Tells whether this is a tree for the closed question and the store."""
    return Judging(schema, store, question).judged(tree) is not None

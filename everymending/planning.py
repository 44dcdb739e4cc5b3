"""Reckons joins by their plans, with papers, and judges papers.

The number of the mendings plays no part: what is found out about some atoms and the values of their
bound variables is kept, and equal papers are made, and judged, once.
"""

from everymending.attacks import plan_of
from everymending.blocks import blocks_of
from everymending.errors import NoPlan
from everymending.joining import fact_of, fixed, parts_apart, relations_of, some_values
from everymending.mendings import exchanged, mending_at
from everymending.questions import values_of_terms, variables_of


def needed_plan(schema, join):
    """Returns the plan of the join; raises NoPlan if it has none."""
    plan = plan_of(schema, join)
    if plan is None:
        raise NoPlan("the join has no plan")
    return plan


def extended(values, terms, row):
    """Returns the values with those that turn the terms into the row, or None if they cannot."""
    added = values_of_terms(terms, row)
    if added is None:
        return None
    if not all(values.get(variable, value) == value for variable, value in added.items()):
        return None
    return {**values, **added}


def tells_each_row(branches, rows):
    """Tells whether the branches are a tuple of pairs of these rows, in order, and anything."""
    if not isinstance(branches, tuple) or len(branches) != len(rows):
        return False
    for branch, row in zip(branches, rows):
        if not isinstance(branch, tuple) or len(branch) != 2 or branch[0] != row:
            return False
    return True


class Reckoning:
    """A join with a plan and a store. Its atoms are named by their places in the plan.

    Values are dicts of the values of the bound variables, which may have further variables.
    """

    def __init__(self, schema, store, join):
        self.schema = schema
        self.atoms = [join[1][index] for index in needed_plan(schema, join)]
        self.places = tuple(range(len(self.atoms)))
        self.inside = [variables_of(((), (atom,))) for atom in self.atoms]
        blocks = blocks_of(schema, store)
        self.blocks = [[block for block in blocks if block[0] == atom[0]] for atom in self.atoms]
        self.relations = relations_of(store, self.atoms)
        self.verdicts = {}
        self.papers = {}
        self.accepted = {}

    def known_of(self, places, values):
        """Returns the tuple of the pairs of the bound variables of these atoms and their values."""
        known = {variable: values[variable] for place in places for variable in self.inside[place]
                 if variable in values}
        return tuple(known.items())

    def parts_of(self, places, values):
        """Returns the list of the smallest parts of these atoms that share no free variables.

        So they are sure together exactly if each part is. The places in a part are in order.
        """
        marked = [(place, [variable for variable in self.inside[place] if variable not in values])
                  for place in places]
        return [tuple(sorted(part)) for part in parts_apart(marked)]

    def is_sure(self, places, values):
        """Tells whether these atoms, the last ones of the plan or of a part, are sure together."""
        return all(self.part_is_sure(part, values) for part in self.parts_of(places, values))

    def part_is_sure(self, part, values):
        """Tells whether the atoms of a part are sure together."""
        case = (part, self.known_of(part, values))
        if case not in self.verdicts:
            self.verdicts[case] = self.found_sure(part, values)
        return self.verdicts[case]

    def found_sure(self, part, values):
        """Finds out whether the atoms of a part are sure together."""
        # What has no valuation in the store is sure in no mending; this spares most of the cases.
        if some_values(fixed([self.relations[place] for place in part], values)) is None:
            return False
        return self.sure_block(part[0], part[1:], values) is not None

    def sure_block(self, place, rest, values):
        """Returns a block that makes the atom at this place and the rest sure, or None."""
        for block in self.blocks[place]:
            if self.makes_sure(place, rest, block, values):
                return block
        return None

    def makes_sure(self, place, rest, block, values):
        """Tells whether the atom can become each row of the block, and then the rest is sure."""
        for row in block[2]:
            known = extended(values, self.atoms[place][1], row)
            if known is None or not self.is_sure(rest, known):
                return False
        return True

    def paper(self, place, values):
        """Returns a paper for the atoms from this place on, which are sure together."""
        case = (place, self.known_of(self.places[place:], values))
        if case not in self.papers:
            self.papers[case] = self.made_paper(place, values)
        return self.papers[case]

    def made_paper(self, place, values):
        """Makes a paper for the atoms from this place on, which are sure together."""
        if place == len(self.atoms):
            return ()
        _, key, rows = self.sure_block(place, self.places[place + 1:], values)
        branches = []
        for row in rows:
            known = extended(values, self.atoms[place][1], row)
            branches.append((row, self.paper(place + 1, known)))
        return (key, tuple(branches))

    def failing_mending(self, mending):
        """Returns a mending in which the join fails, made of this one, or None if it is sure."""
        if self.is_sure(self.places, {}):
            return None
        return self.failing(self.places, {}, mending)

    def failing(self, places, values, mending):
        """Returns a mending in which these atoms, which are not sure together, have no valuation.

        Only facts that a valuation uses are exchanged. So no key values of the first atom of a part
        come in ([28]), and each round takes one of them away.
        """
        parts = self.parts_of(places, values)
        part = [one for one in parts if not self.part_is_sure(one, values)][0]
        found = self.valuation_in(mending, places, values)
        while found is not None:
            used = fact_of(self.atoms[part[0]], {**values, **found})
            row, known = self.bad_row(part, used, values)
            mending = exchanged(self.schema, mending, (used[0], row))
            if known is not None:
                mending = self.failing(part[1:], known, mending)
            found = self.valuation_in(mending, places, values)
        return mending

    def valuation_in(self, mending, places, values):
        """Returns the values of a valuation of these atoms in the mending, or None."""
        relations = relations_of(mending, [self.atoms[place] for place in places])
        return some_values(fixed(relations, values))

    def bad_row(self, part, used, values):
        """Returns a row of the used fact's block that keeps the part from being sure.

        With it come the values behind it, or None if the first atom cannot become the row.
        """
        rows = [block[2] for block in self.blocks[part[0]] if used[1] in block[2]][0]
        cases = [(row, extended(values, self.atoms[part[0]][1], row)) for row in rows]
        return [case for case in cases if case[1] is None or not self.is_sure(part[1:], case[1])][0]

    def accepts(self, place, values, paper):
        """Tells whether this is a paper for the atoms from this place on."""
        if place == len(self.atoms):
            return paper == ()
        case = (place, self.known_of(self.places[place:], values))
        papers = self.accepted.setdefault(case, [])
        if paper in papers:
            return True
        if not isinstance(paper, tuple) or len(paper) != 2:
            return False
        key, branches = paper
        blocks = [block for block in self.blocks[place] if block[1] == key]
        if len(blocks) == 0 or not tells_each_row(branches, blocks[0][2]):
            return False
        for row, further in branches:
            known = extended(values, self.atoms[place][1], row)
            if known is None or not self.accepts(place + 1, known, further):
                return False
        papers.append(paper)
        return True


def reckon(schema, store, join):
    """Returns ("sure", paper) or ("fails", mending) for the join; raises NoPlan."""
    reckoning = Reckoning(schema, store, join)
    mending = reckoning.failing_mending(mending_at(schema, store, 0))
    if mending is None:
        return ("sure", reckoning.paper(0, {}))
    return ("fails", mending)


def judge_paper(schema, store, join, paper):
    """Tells whether this is a paper for the join and the store; raises NoPlan."""
    return Reckoning(schema, store, join).accepts(0, {}, paper)

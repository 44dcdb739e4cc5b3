"""The smallest lots of closed questions: by which few facts a question holds.

Here a fact is told by its number, its index in the store. A lot is a tuple of numbers in ascending
order, and lots are a tuple of such tuples in ascending order, none of which has all numbers of
another one. They hold in a mending if it has all facts of one of them: `()` holds in no mending,
and `((),)` in each.
"""

from itertools import combinations

from everymending.blocks import place_of
from everymending.joining import column_of, fact_of, forced, relation_of, some_values
from everymending.plainly import holds

# Stands in the place of the number of a fact without rivals: it makes no difference which one.
SETTLED = -1


def has_all_of_another(lot, lots):
    """Tells whether the lot has all numbers of another one of the dict of lots."""
    numbers = list(lot)
    for many in range(len(numbers)):
        for part in combinations(numbers, many):
            if part in lots:
                return True
    return False


def smallest(lots):
    """Returns the tuple of those lots of a list that do not have all numbers of another one."""
    different = {lot: True for lot in lots}
    return tuple(sorted([lot for lot in different if not has_all_of_another(lot, different)]))


def with_choice(lots, number, block):
    """Returns the lots if the fact with this number, of this block, is chosen."""
    found = []
    for lot in lots:
        if number in lot:
            found.append(tuple([other for other in lot if other != number]))
        elif not any(other in lot for other in block):
            found.append(lot)
    return smallest(found)


def column_in(relations):
    """Returns a column of numbers that stands in one of the relations, or None."""
    for variables, _ in relations:
        for variable in variables:
            if isinstance(variable, int):
                return variable
    return None


class Rivalry:
    """A store by numbers. `blocks` has the block of each number of a fact that has rivals.

    Such a block is the tuple of its numbers, in ascending order.
    """

    def __init__(self, schema, store):
        self.store = store
        self.blocks = {}
        rows = {}
        for number, fact in enumerate(store):
            rows.setdefault(place_of(schema, fact), []).append(number)
        for numbers in rows.values():
            if len(numbers) > 1:
                for number in numbers:
                    self.blocks[number] = tuple(numbers)
        self.settled = [fact for number, fact in enumerate(store) if number not in self.blocks]
        self.numbers = {store[number]: number for number in self.blocks}

    def marks_of(self, lots):
        """Returns the list of the first numbers of the blocks in which the lots have facts."""
        return list({self.blocks[number][0]: True for lot in lots for number in lot})

    def numbered_relations(self, body):
        """Returns the relations of the atoms, each with a column of numbers.

        It tells the fact that the atom becomes. The column is named by the index of the atom, which
        is an integer and so not the name of a variable.
        """
        found = []
        for index, atom in enumerate(body):
            variables, rows = relation_of(self.store, atom)
            numbered = []
            for row in rows:
                fact = fact_of(atom, dict(zip(variables, row)))
                numbered.append(row + (self.numbers.get(fact, SETTLED),))
            found.append((variables + (index,), numbered))
        return found

    def taken(self, relations, lot):
        """Adds to the lot the numbers that the relations leave no choice for.

        Returns it and the relations that are left, without the rivals of its facts; or None if it
        is plain that there is no valuation without rivals.
        """
        outcome = forced(relations)
        if outcome is None:
            return None
        values, left = outcome
        added = [content for column, content in values.items()
                 if isinstance(column, int) and content != SETTLED]
        if len(added) == 0:
            return (lot, left)
        whole = tuple(sorted(set(list(lot) + added)))
        barred = {}
        for number in added:
            for rival in self.blocks[number]:
                if rival != number:
                    barred[rival] = True
        if any(number in barred for number in whole):
            return None
        return self.taken(without_rows(left, barred), whole)

    def may_hold(self, body):
        """Tells whether a join with this body has a valuation by facts that are no rivals."""
        return self.may_go_on(self.numbered_relations(body), ())

    def may_go_on(self, relations, lot):
        """Tells whether there is such a valuation with the facts of the lot."""
        outcome = self.taken(relations, lot)
        if outcome is None:
            return False
        whole, left = outcome
        column = column_in(left)
        if column is None:
            return some_values(left) is not None
        return any(self.may_go_on(left + [((column,), [(number,)])], whole)
                   for number in column_of(left, column))


def without_rows(relations, barred):
    """Returns the relations without the rows that have one of the barred numbers."""
    found = []
    for variables, rows in relations:
        columns = [at for at, variable in enumerate(variables) if isinstance(variable, int)]
        kept = [row for row in rows if not any(row[at] in barred for at in columns)]
        found.append((variables, kept))
    return found


class LotSearch:
    """Finds the smallest lots of a closed question."""

    def __init__(self, rivalry, question):
        self.rivalry = rivalry
        self.question = question
        self.verdicts = {}
        self.found = {}

    def is_enough(self, lot):
        """Tells whether the question holds by the facts of the lot and those without rivals."""
        if lot not in self.verdicts:
            facts = [self.rivalry.store[number] for number in lot]
            self.verdicts[lot] = holds(self.rivalry.settled + facts, self.question)
        return self.verdicts[lot]

    def add_lots(self, relations, lot):
        """Adds lots that begin with this one, and all smallest ones among them."""
        outcome = self.rivalry.taken(relations, lot)
        if outcome is None:
            return
        whole, left = outcome
        # A lot that is enough has all facts of a smallest one, so no longer one is of use.
        if self.is_enough(whole):
            self.found[whole] = True
            return
        column = column_in(left)
        if column is not None:
            for number in column_of(left, column):
                self.add_lots(left + [((column,), [(number,)])], whole)

    def lots(self):
        """Returns the smallest lots."""
        for _, body in self.question[1]:
            self.add_lots(self.rivalry.numbered_relations(body), ())
        return smallest(list(self.found))


def smallest_lots(schema, store, question):
    """Returns the tuple of the smallest lots of the closed question, as tuples of facts."""
    lots = LotSearch(Rivalry(schema, store), question).lots()
    return tuple([tuple([store[number] for number in lot]) for lot in lots])

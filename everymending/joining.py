"""Finds the valuations of joins by relations.

A relation is a pair of some variables and a list of different rows: the values that these variables
can have together. Each atom of a join becomes one relation, and a valuation gives the variables
values that are in a row of each relation.
"""

from everymending.questions import put_values, values_of_terms, variables_of


def relation_of(facts, atom):
    """Returns the relation of the atom, with a row for each of the facts that it can become."""
    name, terms = atom
    variables = variables_of(((), (atom,)))
    rows = []
    for other, row in facts:
        if other == name:
            values = values_of_terms(terms, row)
            if values is not None:
                rows.append(tuple([values[variable] for variable in variables]))
    return (variables, rows)


def relations_of(facts, body):
    """Returns the list of the relations of the atoms."""
    return [relation_of(facts, atom) for atom in body]


def fact_of(atom, values):
    """Returns the fact that the atom becomes by the values of its variables."""
    name, terms = put_values(values, atom)
    return (name, tuple([content for _, content in terms]))


def fixed(relations, values):
    """Returns the relations in which these variables have these values, without their columns."""
    found = []
    for variables, rows in relations:
        here = [at for at, variable in enumerate(variables) if variable in values]
        rest = [at for at, variable in enumerate(variables) if variable not in values]
        kept = [tuple([row[at] for at in rest]) for row in rows
                if all([row[at] == values[variables[at]] for at in here])]
        found.append((tuple([variables[at] for at in rest]), kept))
    return found


def matched(relation, other):
    """Returns the relation without the rows that go together with no row of the other one."""
    variables, rows = relation
    shared = [variable for variable in variables if variable in other[0]]
    if len(shared) == 0:
        return relation
    here = [variables.index(variable) for variable in shared]
    there = [other[0].index(variable) for variable in shared]
    seen = {tuple([row[at] for at in there]): True for row in other[1]}
    return (variables, [row for row in rows if tuple([row[at] for at in here]) in seen])


def parts_apart(marked):
    """Returns the list of the smallest parts of some things, of which no two share a mark.

    `marked` is a list of pairs of a thing and the list of its marks.
    """
    parts = {}
    homes = {}
    for number, (thing, marks) in enumerate(marked):
        things = [thing]
        own = []
        for mark in marks:
            home = homes.get(mark)
            if home is None:
                own.append(mark)
            elif home != number:
                others, theirs = parts.pop(home)
                things = others + things
                own.extend(theirs)
                for other in theirs:
                    homes[other] = number
            homes[mark] = number
        parts[number] = (things, own)
    return [things for things, _ in parts.values()]


def reduced(relations):
    """Returns the relations in which each row goes together with some row of each other relation.

    No row of a valuation is lost. Returns None if a relation has no rows left.
    """
    left = list(relations)
    if not all(len(rows) > 0 for _, rows in left):
        return None
    # These have lost rows, or were not yet compared with the others.
    waiting = list(range(len(left)))
    while len(waiting) > 0:
        source = waiting.pop()
        for at in range(len(left)):
            if at == source:
                continue
            kept = matched(left[at], left[source])
            if len(kept[1]) == 0:
                return None
            if len(kept[1]) < len(left[at][1]):
                left[at] = kept
                if at not in waiting:
                    waiting.append(at)
    return left


def forced(relations):
    """Returns the values of the variables that only one value is left for, and the other relations.

    Returns None if it is plain that there is no valuation.
    """
    left = reduced(relations)
    if left is None:
        return None
    values = {}
    for variables, rows in left:
        if len(rows) == 1:
            for variable, value in zip(variables, rows[0]):
                values[variable] = value
    return (values, fixed([relation for relation in left if len(relation[1]) > 1], values))


def some_values(relations):
    """Returns the values of a valuation by variable, or None if there is no valuation."""
    found = forced(relations)
    if found is None:
        return None
    values, left = found
    if len(left) == 0:
        return values
    variables, rows = min(left, key=lambda relation: len(relation[1]))
    for row in rows:
        chosen = dict(zip(variables, row))
        rest = some_values(fixed(left, chosen))
        if rest is not None:
            return {**values, **chosen, **rest}
    return None


def add_rows(relations, wanted, values, found):
    """Adds the rows of the wanted variables to the list; `values` are those already chosen."""
    outcome = forced(relations)
    if outcome is None:
        return
    added, left = outcome
    known = {**values, **added}
    missing = [variable for variable in wanted if variable not in known]
    if len(missing) == 0:
        if some_values(left) is not None:
            found.append(tuple([known[variable] for variable in wanted]))
    elif len(left) == 1:
        # All missing variables stand in the only relation that is left.
        variables, rows = left[0]
        for row in rows:
            chosen = dict(zip(variables, row))
            whole = {**known, **chosen}
            found.append(tuple([whole[variable] for variable in wanted]))
    else:
        variable = missing[0]
        for value in column_of(left, variable):
            add_rows(fixed(left, {variable: value}), wanted, {**known, variable: value}, found)


def column_of(relations, variable):
    """Returns the list of the different values of the variable in a relation that has it."""
    for variables, rows in relations:
        if variable in variables:
            at = variables.index(variable)
            return list({row[at]: True for row in rows})
    return []


def wanted_rows(relations, wanted):
    """Returns the list of the rows of values that the valuations give to the wanted variables.

    It is in no order, and a row may stand in it several times.
    """
    found = []
    add_rows(relations, wanted, {}, found)
    return found

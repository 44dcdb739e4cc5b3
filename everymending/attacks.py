"""Closures, attacks between atoms, plans of joins, and rings of attacks."""

from everymending.questions import is_simple, variables_of
from everymending.schemas import table_of


def key_terms(schema, atom):
    """Returns the tuple of the terms in the key of the atom."""
    name, terms = atom
    return terms[:table_of(schema, name)[1]]


def free_in(terms, bound):
    """Returns the list of the variables of the terms that are not bound."""
    return [variable for variable in variables_of((terms, ())) if variable not in bound]


def closure_of(schema, join, atoms, index, bound):
    """Returns the tuple of the variables in the closure of the atom, in alphabetical order."""
    body = join[1]
    closure = free_in(key_terms(schema, body[index]), bound)
    others = [body[other] for other in atoms if other != index]
    grown = True
    while grown:
        grown = False
        for other in others:
            if all(variable in closure for variable in free_in(key_terms(schema, other), bound)):
                inside = free_in(other[1], bound)
                added = [variable for variable in inside if variable not in closure]
                closure.extend(added)
                grown = grown or len(added) > 0
    return tuple(sorted(closure))


def attacked_by(schema, join, atoms, index, bound):
    """Returns the tuple of the variables that the atom attacks, in alphabetical order."""
    body = join[1]
    barred = list(bound) + list(closure_of(schema, join, atoms, index, bound))
    together = [free_in(body[other][1], barred) for other in atoms]
    attacked = free_in(body[index][1], barred)
    waiting = list(attacked)
    while len(waiting) > 0:
        last = waiting.pop()
        for variables in together:
            if last in variables:
                added = [variable for variable in variables if variable not in attacked]
                attacked.extend(added)
                waiting.extend(added)
    return tuple(sorted(attacked))


def attacks_of(schema, join, atoms, bound):
    """Returns the tuple of the pairs of indexes (i, j) for which atom i attacks atom j."""
    found = []
    for index in atoms:
        attacked = attacked_by(schema, join, atoms, index, bound)
        for other in atoms:
            inside = free_in(join[1][other][1], bound)
            if other != index and any(variable in attacked for variable in inside):
                found.append((index, other))
    return tuple(found)


def last_stage(schema, join):
    """Takes atoms that no other atom attacks, as long as there are any.

    Returns the indexes of these atoms, those of the atoms that are left, and the bound variables.
    """
    taken = []
    left = tuple(range(len(join[1])))
    bound = ()
    while len(left) > 0:
        attacked = [pair[1] for pair in attacks_of(schema, join, left, bound)]
        unattacked = [index for index in left if index not in attacked]
        if len(unattacked) == 0:
            break
        taken.append(unattacked[0])
        left = tuple([index for index in left if index != unattacked[0]])
        bound = variables_of(((), tuple([join[1][index] for index in taken])))
    return (tuple(taken), left, bound)


def plan_of(schema, join):
    """Returns the plan of the join, or None if it has none."""
    if not is_simple(join):
        return None
    taken, left, _ = last_stage(schema, join)
    if len(left) > 0:
        return None
    return taken


def ring_of(schema, join):
    """Returns the ring of the simple join, or None if it has a plan."""
    _, left, bound = last_stage(schema, join)
    pairs = attacks_of(schema, join, left, bound)
    # They are in ascending order, so the first one that goes both ways is the least.
    for first, second in pairs:
        if (second, first) in pairs:
            return (left, bound, first, second)
    return None

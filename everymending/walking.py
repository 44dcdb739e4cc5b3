"""Key values, and walks from a mending to one in which the join fails."""

from everymending.attacks import key_terms
from everymending.blocks import place_of
from everymending.joining import fact_of, relations_of, some_values
from everymending.mendings import exchanged
from everymending.planning import Reckoning, needed_plan
from everymending.plainly import answers
from everymending.questions import variables_of


def key_values(schema, mending, join):
    """Returns the tuple of the key values of the join in the mending; raises NoPlan."""
    body = join[1]
    first = body[needed_plan(schema, join)[0]]
    variables = variables_of((key_terms(schema, first), ()))
    head = tuple([("var", variable) for variable in variables])
    return answers(mending, (len(head), ((head, body),)))


def used_facts(mending, join):
    """Returns the list of the facts that some valuation uses; it is empty if there is none.

    There is always a fact if there is a valuation, as the body is not empty.
    """
    values = some_values(relations_of(mending, join[1]))
    if values is None:
        return []
    return [fact_of(atom, values) for atom in join[1]]


def walk(schema, store, join, mending):
    """Returns a walk that begins at the mending, or None if the join is sure; raises NoPlan."""
    goal = Reckoning(schema, store, join).failing_mending(mending)
    if goal is None:
        return None
    wanted = {place_of(schema, fact): fact for fact in goal}
    steps = []
    used = used_facts(mending, join)
    while len(used) > 0:
        # The join fails in the goal, so one of the used facts is not there. Each step comes nearer
        # to the goal, so there are never more steps than blocks.
        old = [fact for fact in used if fact not in goal][0]
        new = wanted[place_of(schema, old)]
        steps.append((old, new))
        mending = exchanged(schema, mending, new)
        used = used_facts(mending, join)
    return tuple(steps)

"""Valuations, answers, and what is sure if one looks at every mending."""

from everymending.joining import relations_of, some_values, wanted_rows
from everymending.mendings import count_mendings, mending_at
from everymending.questions import put_value, variables_of
from everymending.values import sorted_rows


def valuations(store, join):
    """Returns the list of the valuations of the join in the store, in ascending order."""
    variables = variables_of(join)
    rows = sorted_rows(wanted_rows(relations_of(store, join[1]), variables))
    return [tuple(zip(variables, row)) for row in rows]


def head_rows(store, join):
    """Returns the list of the rows that the head can become by valuations in the store."""
    head, body = join
    wanted = variables_of((head, ()))
    found = []
    for row in wanted_rows(relations_of(store, body), wanted):
        values = dict(zip(wanted, row))
        found.append(tuple([put_value(values, term)[1] for term in head]))
    return found


def answers(store, question):
    """Returns the tuple of the rows that answer the question, in ascending order."""
    found = []
    for join in question[1]:
        found.extend(head_rows(store, join))
    return tuple(sorted_rows(found))


def holds(store, question):
    """Tells whether the closed question holds in the store."""
    return any(some_values(relations_of(store, body)) is not None for _, body in question[1])


def sure_plainly(schema, store, question):
    """Returns the tuple of the sure rows, found by looking at every mending."""
    sure = answers(mending_at(schema, store, 0), question)
    for number in range(1, count_mendings(schema, store)):
        found = answers(mending_at(schema, store, number), question)
        sure = tuple([row for row in sure if row in found])
    return sure

"""Sure and possible rows, and the shares of rows."""

from everymending.attacks import plan_of
from everymending.counting import count_bearing
from everymending.lots import Rivalry
from everymending.mendings import count_mendings, mending_at
from everymending.plainly import answers, head_rows
from everymending.planning import Reckoning
from everymending.questions import is_simple, put_row
from everymending.trees import decide
from everymending.values import sorted_rows


def is_possible(rivalry, join, row):
    """Tells whether the row answers by the join in some mending."""
    return any(rivalry.may_hold(body) for _, body in put_row((len(row), (join,)), row)[1])


def possible_rows(schema, store, question):
    """Returns the tuple of the possible rows, in ascending order."""
    rivalry = Rivalry(schema, store)
    found = []
    for join in question[1]:
        rows = sorted_rows(head_rows(store, join))
        # Facts of different tables are no rivals, so each valuation of a simple join will do.
        if not is_simple(join):
            rows = [row for row in rows if is_possible(rivalry, join, row)]
        found.extend(rows)
    return tuple(sorted_rows(found))


def failing_mending(schema, store, question):
    """Returns a mending that fails the closed question, or None if it is sure."""
    joins = question[1]
    for join in joins:
        if plan_of(schema, join) is not None:
            first = mending_at(schema, store, 0)
            failing = Reckoning(schema, store, join).failing_mending(first)
            if failing is None or len(joins) == 1:
                return failing
    verdict, outcome = decide(schema, store, question)
    if verdict == "sure":
        return None
    return outcome


def sure_rows(schema, store, question):
    """Returns the tuple of the sure rows, in ascending order."""
    left = answers(mending_at(schema, store, 0), question)
    sure = []
    while len(left) > 0:
        failing = failing_mending(schema, store, put_row(question, left[0]))
        if failing is None:
            sure.append(left[0])
            left = left[1:]
        else:
            others = {row: True for row in answers(failing, question)}
            left = tuple([row for row in left if row in others])
    return tuple(sure)


def share_of(schema, store, question, row):
    """Returns the pair of the numbers of the mendings in which the row answers, and of all."""
    answering = count_bearing(schema, store, put_row(question, row))
    return (answering, count_mendings(schema, store))

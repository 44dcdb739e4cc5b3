"""Stores, their blocks, and rivals."""

from everymending.errors import NoRow
from everymending.schemas import is_fact, key_of
from everymending.values import row_rank


def fact_rank(fact):
    """Returns what Python compares in the order of the facts."""
    name, row = fact
    return (name, row_rank(row))


def make_store(schema, facts):
    """Returns the store of the facts of the list; raises NoRow if one is no fact."""
    for name, row in facts:
        if not is_fact(schema, name, row):
            raise NoRow("one of the pairs is not a fact of the schema")
    different = {fact: True for fact in facts}
    return tuple(sorted(different, key=fact_rank))


def place_of(schema, fact):
    """Returns the pair of the name and the key of the block in which the fact is."""
    return (fact[0], key_of(schema, fact))


def blocks_of(schema, store):
    """Returns the tuple of the blocks of the store."""
    # A row begins with its key, so the order of the facts is also that of the blocks and rows.
    rows = {}
    for fact in store:
        rows.setdefault(place_of(schema, fact), []).append(fact[1])
    return tuple([(name, key, tuple(rows[name, key])) for name, key in rows])


def is_clean(schema, store):
    """Tells whether each block of the store has one row."""
    return len(blocks_of(schema, store)) == len(store)


def rivals_of(schema, store, fact):
    """Returns the tuple of the rivals of a fact of the store, in ascending order."""
    place = place_of(schema, fact)
    return tuple([other for other in store if other != fact and place_of(schema, other) == place])

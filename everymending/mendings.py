"""Mendings, their numbers, and exchanges.

A store can have far too many mendings to look at each, so nothing here goes over all of them.
"""

from everymending.blocks import blocks_of, place_of


def count_mendings(schema, store):
    """Returns the number of the mendings of the store."""
    many = 1
    for block in blocks_of(schema, store):
        many = many * len(block[2])
    return many


def is_mending(schema, store, facts):
    """Tells whether the tuple of facts is a mending of the store."""
    # A mending is a store, so its facts stand in the order of the blocks.
    blocks = blocks_of(schema, store)
    if len(facts) != len(blocks):
        return False
    return all([fact[0] == block[0] and fact[1] in block[2] for fact, block in zip(facts, blocks)])


def mending_at(schema, store, n):
    """Returns the mending with the number n, or None if there is none."""
    if n < 0:
        return None
    # The first block counts most: so the number is taken apart from the last block on.
    left = n
    found = []
    for name, _, rows in blocks_of(schema, store)[::-1]:
        left, index = divmod(left, len(rows))
        found.append((name, rows[index]))
    if left > 0:
        return None
    return tuple(found[::-1])


def number_of(schema, store, mending):
    """Returns the number of a mending of the store."""
    number = 0
    for fact, block in zip(mending, blocks_of(schema, store)):
        rows = block[2]
        number = number * len(rows) + rows.index(fact[1])
    return number


def exchanged(schema, mending, fact):
    """Returns the mending with the fact in the place of the one of its block."""
    place = place_of(schema, fact)
    return tuple([fact if place_of(schema, old) == place else old for old in mending])

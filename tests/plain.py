"""What the document says, written down again in the plainest way, for the tests to compare with.

Nothing here uses the package, and everything looks at all cases, so it serves for small stores only.
"""

import itertools


def var(name):
    return ("var", name)


def val(value):
    return ("value", value)


def atom(name, *terms):
    return (name, terms)


def join(head, *body):
    return (tuple(head), body)


def closed(*bodies):
    """The closed question with these bodies."""
    return (0, tuple([((), tuple(body)) for body in bodies]))


def rank(row):
    return [(isinstance(value, str), value) for value in row]


def in_order(rows):
    return sorted(set(rows), key=rank)


def store_of(*facts):
    return tuple(sorted(set(facts), key=lambda fact: (fact[0], rank(fact[1]))))


def columns(schema, name):
    return [table[1:] for table in schema if table[0] == name][0]


def place(schema, fact):
    return (fact[0], fact[1][:columns(schema, fact[0])[0]])


def blocks(schema, store):
    """The rows of each block, by its name and its key, in order."""
    found = {}
    for fact in store:
        found.setdefault(place(schema, fact), []).append(fact[1])
    return found


def mendings(schema, store):
    """All mendings in the order of their numbers."""
    groups = [[(name, row) for row in rows] for (name, _), rows in blocks(schema, store).items()]
    return list(itertools.product(*groups))


def number_of_mendings(schema, store):
    many = 1
    for rows in blocks(schema, store).values():
        many *= len(rows)
    return many


def fitted(terms, row, values):
    """The values with those that turn the terms into the row, or None."""
    values = dict(values)
    for (kind, content), value in zip(terms, row):
        if kind == "value":
            if content != value:
                return None
        elif values.setdefault(content, value) != value:
            return None
    return values


def turned(terms, values):
    return tuple([values[content] if kind == "var" else content for kind, content in terms])


def valuations(store, body):
    """All valuations of the body in the store, as dicts, each once."""
    found = [{}]
    for name, terms in body:
        found = [fitted(terms, row, values) for values in found for other, row in store
                 if other == name]
        found = [values for values in found if values is not None]
    return [dict(pairs) for pairs in {tuple(sorted(values.items())) for values in found}]


def holds(store, question):
    return any(valuations(store, body) for _, body in question[1])


def answers(store, question):
    return tuple(in_order([turned(head, values) for head, body in question[1]
                           for values in valuations(store, body)]))


def sure(schema, store, question):
    """The sure rows."""
    found = [answers(mending, question) for mending in mendings(schema, store)]
    return tuple([row for row in found[0] if all(row in rows for rows in found)])


def failing(schema, store, question):
    """The mendings that fail the closed question."""
    return [mending for mending in mendings(schema, store) if not holds(mending, question)]


def bearing(schema, store, question):
    """The mendings that bear the closed question, in the order of their numbers."""
    return [mending for mending in mendings(schema, store) if holds(mending, question)]


def variables(terms):
    return {content for kind, content in terms if kind == "var"}


def closure(schema, body, atoms, index, bound):
    """[22], by looking at all sets of variables."""
    free = {at: variables(body[at][1]) - set(bound) for at in atoms}
    keys = {at: variables(body[at][1][:columns(schema, body[at][0])[0]]) - set(bound)
            for at in atoms}
    every = sorted(set().union(*free.values()))
    closed_sets = []
    for many in range(len(every) + 1):
        for chosen in itertools.combinations(every, many):
            if keys[index] <= set(chosen) and all(
                    free[at] <= set(chosen) for at in atoms
                    if at != index and keys[at] <= set(chosen)):
                closed_sets.append(set(chosen))
    return tuple(sorted(set.intersection(*closed_sets)))


def attacked(schema, body, atoms, index, bound):
    """[23], by looking at all sequences of different variables."""
    barred = set(closure(schema, body, atoms, index, bound)) | set(bound)
    free = {at: variables(body[at][1]) - barred for at in atoms}
    every = sorted(set().union(*free.values()))
    found = set()
    for many in range(1, len(every) + 1):
        for path in itertools.permutations(every, many):
            if path[0] in free[index] and all(
                    any({left, right} <= free[at] for at in atoms)
                    for left, right in zip(path, path[1:])):
                found.add(path[-1])
    return tuple(sorted(found))


def attacks(schema, body, atoms, bound):
    return tuple([(at, other) for at in atoms for other in atoms if at != other
                  and set(attacked(schema, body, atoms, at, bound)) & variables(body[other][1])])


def stages(schema, body):
    """The taken atoms, those that are left, and the bound variables, where [24] comes to an end."""
    taken, left, bound = [], list(range(len(body))), set()
    while left:
        pairs = attacks(schema, body, left, tuple(sorted(bound)))
        free = [at for at in left if not any(pair[1] == at for pair in pairs)]
        if not free:
            break
        taken.append(free[0])
        left.remove(free[0])
        bound |= variables(body[free[0]][1])
    return tuple(taken), tuple(left), tuple(sorted(bound))


def is_simple(body):
    return len({name for name, _ in body}) == len(body)


def plan(schema, body):
    taken, left, _ = stages(schema, body)
    return None if left or not is_simple(body) else taken


def are_branches(branches, rows):
    return (isinstance(branches, tuple) and len(branches) == len(rows)
            and all(isinstance(branch, tuple) and len(branch) == 2 and branch[0] == row
                    for branch, row in zip(branches, rows)))


def is_paper(schema, store, body, order, values, paper):
    """[26], for the atoms in this order, which is the rest of the plan."""
    if not order:
        return paper == ()
    if not isinstance(paper, tuple) or len(paper) != 2:
        return False
    name, terms = body[order[0]]
    found = [rows for place, rows in blocks(schema, store).items() if place == (name, paper[0])]
    if not found or not are_branches(paper[1], found[0]):
        return False
    for row, further in paper[1]:
        known = fitted(terms, row, values)
        if known is None or not is_paper(schema, store, body, order[1:], known, further):
            return False
    return True


def is_tree(schema, store, question, tree, choices=None):
    """[29]; choices is a dict of rows by places."""
    choices = choices or {}
    groups = blocks(schema, store)
    if not isinstance(tree, tuple) or not tree:
        return False
    if tree[0] == "leaf" and len(tree) == 3 and isinstance(tree[1], int):
        if not 0 <= tree[1] < len(question[1]):
            return False
        settled = [(name, row) for (name, key), rows in groups.items() for row in rows
                   if len(rows) == 1 or choices.get((name, key)) == row]
        found = valuations(settled, question[1][tree[1]][1])
        return tree[2] in [tuple(sorted(values.items())) for values in found]
    if tree[0] == "split" and len(tree) == 4:
        found = [place for place, rows in groups.items()
                 if place == (tree[1], tree[2]) and len(rows) > 1 and place not in choices]
        if not found or not are_branches(tree[3], groups[found[0]]):
            return False
        return all(is_tree(schema, store, question, further, {**choices, found[0]: row})
                   for row, further in tree[3])
    return False


def possible(schema, store, question):
    """The possible rows."""
    return tuple(in_order([row for mending in mendings(schema, store)
                           for row in answers(mending, question)]))


def lots(schema, store, question):
    """[41], by looking at all valuations; in order, and only the smallest ones."""
    groups = blocks(schema, store)
    found = set()
    for _, body in question[1]:
        for values in valuations(store, body):
            facts = {(name, turned(terms, values)) for name, terms in body}
            if len({place(schema, fact) for fact in facts}) == len(facts):
                found.add(frozenset([fact for fact in facts
                                     if len(groups[place(schema, fact)]) > 1]))
    least = [lot for lot in found if not any(other < lot for other in found)]
    return tuple(sorted([store_of(*lot) for lot in least],
                        key=lambda lot: [(name, rank(row)) for name, row in lot]))


def sum_of(rows, column):
    return sum(row[column] for row in rows if isinstance(row[column], int))


def values_in(sentence):
    """The values that stand in a sentence."""
    if sentence[0] in ("fact", "same"):
        terms = sentence[2] if sentence[0] == "fact" else sentence[1:]
        return {content for kind, content in terms if kind == "value"}
    parts = sentence[1] if sentence[0] in ("and", "or") else sentence[-1:]
    return set().union(*[values_in(part) for part in parts])


def sentence_holds(store, sentence, domain=None, values=None):
    """[37], by trying all values."""
    if domain is None:
        domain = values_in(sentence) | {value for _, row in store for value in row}
    values = values or {}
    kind = sentence[0]
    if kind == "fact":
        return (sentence[1], turned(sentence[2], values)) in store
    if kind == "same":
        one, other = turned(sentence[1:], values)
        return one == other
    if kind == "not":
        return not sentence_holds(store, sentence[1], domain, values)
    if kind in ("and", "or"):
        return (all if kind == "and" else any)(
            [sentence_holds(store, part, domain, values) for part in sentence[1]])
    return (any if kind == "some" else all)(
        [sentence_holds(store, sentence[2], domain, {**values, sentence[1]: value})
         for value in domain])


def with_choices(schema, store, choices):
    """The store without the rivals of the choices, which are a dict of rows by places."""
    return tuple([fact for fact in store
                  if choices.get(place(schema, fact), fact[1]) == fact[1]])


def is_strategy(schema, store, question, strategy):
    """[36]; the store has lost the rivals of the choices."""
    if not isinstance(strategy, tuple) or not strategy:
        return False
    if strategy[0] == "tell" and len(strategy) == 2 and strategy[1] in (0, 1):
        return all(holds(mending, question) == (strategy[1] == 1)
                   for mending in mendings(schema, store))
    if strategy[0] == "ask" and len(strategy) == 4:
        groups = blocks(schema, store)
        found = [spot for spot, rows in groups.items()
                 if spot == (strategy[1], strategy[2]) and len(rows) > 1]
        if not found or not are_branches(strategy[3], groups[found[0]]):
            return False
        return all(is_strategy(schema, with_choices(schema, store, {found[0]: row}), question,
                               further) for row, further in strategy[3])
    return False


def depth(strategy):
    if strategy[0] == "tell":
        return 0
    return 1 + max([depth(further) for _, further in strategy[3]])


def least_depth(schema, store, question):
    """The depth of a best strategy, by trying all strategies."""
    verdicts = {mending: holds(mending, question) for mending in mendings(schema, store)}
    groups = [list(rows) for rows in blocks(schema, store).values()]
    known = {}

    def least(chosen):
        """`chosen` has a row, or None, for each block."""
        if chosen not in known:
            told = {verdict for mending, verdict in verdicts.items()
                    if all(row in (None, fact[1]) for row, fact in zip(chosen, mending))}
            asks = [at for at, row in enumerate(chosen) if row is None and len(groups[at]) > 1]
            known[chosen] = 0 if len(told) == 1 else 1 + min(
                [max([least(chosen[:at] + (row,) + chosen[at + 1:]) for row in groups[at]])
                 for at in asks])
        return known[chosen]

    return least(tuple([None for _ in groups]))


# What may stand in the place of a part of a paper, a tree or a strategy.
STRANGE = [(), (()), 0, 1, -1, 2, 99, "", "a", "b", "leaf", "split", "x", ("a",), (1,), ((), ()),
           (("a", ()),), ("leaf", 0, ()), ("split", "a", (), ())]


def changed(whole):
    """The tuples that differ from this one in one place."""
    for other in STRANGE:
        if other != whole:
            yield other
    if not isinstance(whole, tuple):
        return
    for at, part in enumerate(whole):
        yield whole[:at] + whole[at + 1:]
        yield whole[:at] + (part,) + whole[at:]
        for other in changed(part):
            yield whole[:at] + (other,) + whole[at + 1:]
    if whole[::-1] != whole:
        yield whole[::-1]


def no_tuples(deep):
    """Nested tuples that are no papers and no trees, some of them very deep."""
    found = [(), ((),), ((), ()), ((), (), ()), (1,), ("a",), (1, 2), ("a", "b"), ("", 0, ()),
             ("leaf",), ("leaf", 0), ("leaf", "0", ()), ("leaf", (), ()), ("leaf", 0, (), ()),
             ("leaf", -1, ()), ("leaf", 10**50, ()), ("leaf", 0, 0), ("leaf", 0, "x"),
             ("leaf", 0, ((),)), ("leaf", 0, (("x",),)), ("leaf", 0, ("x", "y")),
             ("leaf", 0, (("x", ()),)), ("leaf", 0, (("x", "no"),)), ("leaf", 0, (("q", 1),)),
             ("split",), ("split", "r"), ("split", "r", (1,)), ("split", "r", (1,), (), ()),
             ("split", "r", (1,), ()), ("split", "r", 1, ()), ("split", 1, "r", ()),
             ("split", "q", (1,), ()), ("split", (), (), ()), ("split", "r", (1,), "ab"),
             ("split", "r", (1,), ((),)), ("split", "r", (1,), (1, 2)), ("tell", 1), ("x", 0, ()),
             (((), ()), ((), ())), ((1,), ()), ((1,), (1, 2)), ((1,), "ab"), ((1,), ((), ())),
             ("sure", ()), ("fails", ())]
    for start in [(), 1, "a"]:
        for wrap in [lambda inner: (inner,), lambda inner: (inner, ()), lambda inner: ((), inner),
                     lambda inner: (inner, inner), lambda inner: ("leaf", 0, inner),
                     lambda inner: ("leaf", 0, (("x", inner),)),
                     lambda inner: ("split", "r", inner, ()),
                     lambda inner: ("split", "r", (1,), (((1, 1), inner), ((1, 2), inner)))]:
            inner = start
            for _ in range(deep):
                inner = wrap(inner)
            found.append(inner if isinstance(inner, tuple) else (inner,))
    return found


class Chances:
    """Always the same sequence of numbers, for tests with many made-up cases."""

    def __init__(self, seed):
        self.state = seed

    def below(self, many):
        self.state = (self.state * 6364136223846793005 + 1442695040888963407) % 2**64
        return (self.state >> 33) % many

    def pick(self, things):
        return things[self.below(len(things))]

    def schema(self, forms, most):
        return tuple([("abcdefgh"[at],) + self.pick(forms) for at in range(1 + self.below(most))])

    def atom(self, table, names, values):
        return (table[0], tuple([var(self.pick(names)) if self.below(6) else val(self.pick(values))
                                 for _ in range(table[1] + table[2])]))

    def body(self, schema, many, names, values):
        return tuple([self.atom(self.pick(schema), names, values) for _ in range(many)])

    def simple_body(self, schema, names, values):
        """Atoms of some of the tables, each once, in any order."""
        left = list(schema)
        tables = [left.pop(self.below(len(left))) for _ in range(self.below(len(left) + 1))]
        return tuple([self.atom(table, names, values) for table in tables])

    def question(self, schema, width, names, values):
        """A valid question with at most three joins."""
        joins = []
        for _ in range(self.below(4)):
            body = self.body(schema, self.below(4), names, values)
            inside = sorted(set().union(*[variables(terms) for _, terms in body]))
            joins.append((tuple([var(self.pick(inside)) if inside and self.below(4) else
                                 val(self.pick(values)) for _ in range(width)]), body))
        return (width, tuple(joins))

    def sentence(self, schema, deep, names, values, bound=()):
        """A valid sentence of at most this depth."""
        kind = self.pick(["fact", "fact", "same", "not", "and", "or", "some", "each"])
        if kind == "fact":
            name, key, rest = self.pick(schema)
            return ("fact", name, tuple([self.bound_term(values, bound) for _ in range(key + rest)]))
        if kind == "same" or deep == 1:
            return ("same", self.bound_term(values, bound), self.bound_term(values, bound))
        if kind == "not":
            return ("not", self.sentence(schema, deep - 1, names, values, bound))
        if kind in ("and", "or"):
            return (kind, tuple([self.sentence(schema, deep - 1, names, values, bound)
                                 for _ in range(self.pick([0, 2, 2, 2, 3, 3, 4]))]))
        name = self.pick(names)
        return (kind, name, self.sentence(schema, deep - 1, names, values, bound + (name,)))

    def bound_term(self, values, bound):
        return var(self.pick(bound)) if bound and self.below(5) else val(self.pick(values))

    def store(self, schema, many, values):
        facts = []
        for _ in range(many):
            name, key, rest = self.pick(schema)
            facts.append((name, tuple([self.pick(values) for _ in range(key + rest)])))
        return store_of(*facts)

import inspect
import unittest

import plain
from everymending import walking
from everymending.attacks import plan_of
from everymending.blocks import blocks_of, rivals_of
from everymending.errors import NoPlan
from everymending.mendings import count_mendings, exchanged, mending_at
from everymending.plainly import holds
from everymending.planning import reckon
from everymending.reading import read_question
from everymending.walking import key_values, walk
from plain import Chances, atom, join, store_of, val, var

LETTERS = "abcdefgh"
X, Y, Z = var("x"), var("y"), var("z")
WORKS = (("open", 1, 0), ("works", 1, 1))
CHAIN = (("r", 1, 1), ("s", 1, 1), ("t", 1, 0))
FORMS = [(0, 1), (1, 0), (1, 1), (1, 1), (1, 1), (1, 2), (2, 1)]


def read(schema, text):
    return read_question(schema, text)[1][0]


def plain_key_values(schema, mending, body):
    name, terms = body[plain.plan(schema, body)[0]]
    wanted = sorted(plain.variables(terms[:plain.columns(schema, name)[0]]))
    rows = [tuple([values[one] for one in wanted]) for values in plain.valuations(mending, body)]
    return tuple(plain.in_order(rows))


class Interface(unittest.TestCase):
    def test_functions_and_their_arguments(self):
        told = {"key_values": ["schema", "mending", "join"], "walk": ["schema", "store", "join", "mending"]}
        for name, arguments in told.items():
            function = getattr(walking, name)
            self.assertEqual(function.__module__, "everymending.walking")
            self.assertEqual(list(inspect.signature(function).parameters), arguments)

    def test_joins_without_a_plan(self):
        store = store_of(("r", (1, 1)), ("r", (1, 2)), ("s", (1, 1)), ("t", (1,)))
        mending = mending_at(CHAIN, store, 0)
        for whole in [join([], atom("r", X, Y), atom("s", Y, X)), join([], atom("r", X, Z), atom("s", Y, Z)),
                      join([], atom("r", X, Y), atom("r", X, Y)), join([], atom("t", val(1)), atom("t", val(1))),
                      join([], atom("t", val(9)), atom("t", X))]:
            self.assertIsNone(plan_of(CHAIN, whole))
            self.assertRaises(NoPlan, key_values, CHAIN, mending, whole)
            self.assertRaises(NoPlan, key_values, CHAIN, (), whole)
            self.assertRaises(NoPlan, walk, CHAIN, store, whole, mending)
            self.assertRaises(NoPlan, walk, CHAIN, (), whole, ())


class KeyValues(unittest.TestCase):
    def check(self, schema, text, mending, *rows):
        found = key_values(schema, mending, read(schema, text))
        self.assertEqual(found, rows)
        self.assertIs(type(found), tuple)

    def test_one_atom(self):
        mending = store_of(("works", (1, 2)), ("works", ("b", 2)), ("works", ("a", 1)), ("works", (-3, -3)))
        self.check(WORKS, "[] works(x | y)", mending, (-3,), (1,), ("a",), ("b",))
        self.check(WORKS, "[] works(x | 2)", mending, (1,), ("b",))
        self.check(WORKS, "[] works(x | x)", mending, (-3,))
        self.check(WORKS, "[] works(x | 7)", mending)
        self.check(WORKS, "[] works(x | y)", ())

    def test_keys_without_variables(self):
        mending = store_of(("works", (1, 2)), ("works", (2, 2)))
        self.check(WORKS, "[] works(1 | y)", mending, ())
        self.check(WORKS, "[] works(3 | y)", mending)
        schema = (("best", 0, 1), ("open", 1, 0))
        self.check(schema, "[] best(| x), open(x |)", store_of(("best", (1,)), ("open", (1,))), ())
        self.check(schema, "[] best(| x), open(x |)", store_of(("best", (1,)), ("open", (2,))))

    def test_the_order_of_the_variables_and_of_the_rows(self):
        schema = (("far", 3, 1),)
        mending = store_of(("far", (1, 2, 3, 0)), ("far", (2, 1, 3, 0)), ("far", ("a", 1, 9, 0)),
                           ("far", ("a", 1, 10, 0)))
        self.check(schema, "[] far(z, x, y | u)", mending, (1, 3, 2), (1, 9, "a"), (1, 10, "a"), (2, 3, 1))
        self.check(schema, "[] far(z, x, 3 | u)", mending, (1, 2), (2, 1))

    def test_a_variable_that_stands_twice_in_the_key(self):
        schema = (("far", 3, 1),)
        mending = store_of(("far", (1, 1, 3, 0)), ("far", (2, 1, 3, 0)), ("far", ("b", "b", "a", 0)))
        self.check(schema, "[] far(x, x, y | u)", mending, (1, 3), ("b", "a"))

    def test_only_the_first_atom_of_the_plan_counts(self):
        mending = store_of(("r", (1, 5)), ("r", (2, 5)), ("r", (3, 6)), ("s", (5, 8)), ("s", (6, 9)), ("t", (8,)))
        self.check(CHAIN, "[] t(z |), s(y | z), r(x | y)", mending, (1,), (2,))
        self.check(CHAIN, "[] t(z |), s(y | z)", mending, (5,))
        self.check(CHAIN, "[] s(y | z), t(u |)", mending, (5,), (6,))
        self.check(CHAIN, "[] t(u |), s(y | z)", mending, (8,))

    def test_each_row_once(self):
        schema = (("r", 1, 1), ("t", 1, 0))
        mending = store_of(("r", (1, 1)), *[("t", (at,)) for at in range(9)])
        self.check(schema, "[] r(x | y), t(z |)", mending, (1,))

    def test_made_up_cases(self):
        chances = Chances(11)
        seen = {}
        while len(seen) < 5 or min(seen.values()) < 15:
            schema = chances.schema(FORMS, 5)
            body = chances.simple_body(schema, ["x", "y", "z", "u"], [1, 2, "a"])
            store = chances.store(schema, chances.below(15), [1, 2, "a"])
            if not body or plain.plan(schema, body) is None:
                continue
            mending = chances.pick(plain.mendings(schema, store)[:50])
            rows = plain_key_values(schema, mending, body)
            self.assertEqual(key_values(schema, mending, ((), body)), rows)
            seen[min(len(rows), 4)] = seen.get(min(len(rows), 4), 0) + 1

    def test_clean_stores_of_very_many_valuations(self):
        schema = tuple([(letter, 1, 0) for letter in LETTERS])
        mending = store_of(*[(letter, (value,)) for letter in LETTERS for value in range(25)])
        whole = join([], *[atom(letter, var(letter)) for letter in LETTERS])
        self.assertEqual(key_values(schema, mending, whole), tuple([(value,) for value in range(25)]))
        self.assertEqual(key_values(schema, mending[:-25], whole), ())


class Walks(unittest.TestCase):
    def check(self, schema, store, whole, mending):
        """Goes the walk, and returns its length."""
        steps = walk(schema, store, whole, mending)
        self.assertIs(type(steps), tuple)
        most = len(key_values(schema, mending, whole)) * len(blocks_of(schema, store))
        self.assertLessEqual(len(steps), most)
        keys = key_values(schema, mending, whole)
        for old, new in steps:
            used = {(name, plain.turned(terms, values)) for values in plain.valuations(mending, whole[1])
                    for name, terms in whole[1]}
            self.assertIn(old, used)
            self.assertIn(old, mending)
            self.assertIn(new, rivals_of(schema, store, old))
            mending = exchanged(schema, mending, new)
            fewer = key_values(schema, mending, whole)
            self.assertTrue(all(row in keys for row in fewer))
            keys = fewer
        self.assertFalse(holds(mending, (0, (whole,))))
        return len(steps)

    def test_the_example(self):
        store = store_of(("open", ("bar",)), ("works", ("ann", "bar")), ("works", ("ann", "shop")))
        whole = read(WORKS, "[] works(x | y), open(y |)")
        self.assertEqual(walk(WORKS, store, whole, mending_at(WORKS, store, 0)),
                         ((("works", ("ann", "bar")), ("works", ("ann", "shop"))),))
        self.assertEqual(walk(WORKS, store, whole, mending_at(WORKS, store, 1)), ())

    def test_joins_that_are_sure(self):
        store = store_of(("open", ("bar",)), ("open", ("shop",)), ("works", ("ann", "bar")), ("works", ("ann", "shop")))
        for text in ["[] works(x | y), open(y |)", "[] works(x | y)", "[] open(x |)", '[] open("bar" |)']:
            for number in range(2):
                self.assertIsNone(walk(WORKS, store, read(WORKS, text), mending_at(WORKS, store, number)))

    def test_walks_without_steps(self):
        self.assertEqual(walk(WORKS, (), read(WORKS, "[] works(x | y)"), ()), ())
        store = store_of(("works", (1, 2)), ("works", (1, 3)), ("open", (4,)))
        for text in ["[] open(5 |)", "[] works(x | y), open(y |)", "[] works(2 | y)", "[] works(x | 4)"]:
            for number in range(2):
                self.assertEqual(walk(WORKS, store, read(WORKS, text), mending_at(WORKS, store, number)), ())

    def test_walks_with_many_steps(self):
        store = store_of(*[("works", (at, word)) for at in range(20) for word in ("bar", "shop")])
        for number, word in [(0, "bar"), (2**20 - 1, "shop")]:
            mending = mending_at(WORKS, store, number)
            self.assertEqual(self.check(WORKS, store, read(WORKS, f'[] works(x | "{word}")'), mending), 20)
        half = mending_at(WORKS, store, 0b10101010101010101010)
        self.assertEqual(self.check(WORKS, store, read(WORKS, '[] works(x | "bar")'), half), 10)

    def test_facts_that_no_valuation_uses_stay(self):
        store = store_of(("r", (1, 1)), ("r", (1, 2)), ("r", (2, 7)), ("r", (2, 8)), ("s", (1, 1)), ("s", (1, 3)),
                         ("s", (9, 1)), ("s", (9, 2)), ("t", (1,)))
        whole = read(CHAIN, "[] r(x | y), s(y | z), t(z |)")
        for number in range(count_mendings(CHAIN, store)):
            mending = mending_at(CHAIN, store, number)
            self.assertEqual(self.check(CHAIN, store, whole, mending), int(holds(mending, (0, (whole,)))))

    def test_one_exchange_can_show_another_fact(self):
        # When r is exchanged, it leads to another s, which then must be exchanged, too.
        store = store_of(("r", (1, 1)), ("r", (1, 2)), ("s", (1, 1)), ("s", (2, 1)), ("s", (2, 5)), ("t", (1,)))
        whole = read(CHAIN, "[] r(x | y), s(y | z), t(z |)")
        lengths = [self.check(CHAIN, store, whole, mending_at(CHAIN, store, number)) for number in range(4)]
        self.assertEqual([min(length, 1) for length in lengths], [1, 1, 1, 0])

    def test_made_up_cases(self):
        chances = Chances(12)
        seen = {}
        while len(seen) < 4 or min(seen.values()) < 10:
            schema = chances.schema(FORMS, 5)
            body = chances.simple_body(schema, ["x", "y", "z", "u"][:2 + chances.below(3)], [1, 2])
            store = chances.store(schema, 4 + chances.below(15), chances.pick([[1, 2], [1, 2, 3]]))
            if (not body or plain.plan(schema, body) is None
                    or plain.number_of_mendings(schema, store) > 100):
                continue
            mending = chances.pick(plain.mendings(schema, store))
            if plain.failing(schema, store, (0, (((), body),))):
                length = min(self.check(schema, store, ((), body), mending), 2)
            else:
                length = None
                self.assertIsNone(walk(schema, store, ((), body), mending))
            seen[length] = seen.get(length, 0) + 1

    def test_stores_with_very_many_mendings(self):
        store = store_of(*[("r", (at, other)) for at in range(40) for other in (at, at + 1)],
                         *[("s", (at, word)) for at in range(41) for word in ("a", "b")], ("t", ("a",)))
        whole = read(CHAIN, "[] t(z |), s(y | z), r(x | y)")
        self.assertEqual(count_mendings(CHAIN, store), 2**81)
        for number in [0, 2**81 - 1, 123456789 * 2**50, 2**81 // 3]:
            self.check(CHAIN, store, whole, mending_at(CHAIN, store, number))
        sure = store_of(*store, ("t", ("b",)))
        self.assertIsNone(walk(CHAIN, sure, whole, mending_at(CHAIN, sure, 2**80)))
        self.assertEqual(reckon(CHAIN, sure, whole)[0], "sure")

    def test_chains_of_eight_atoms(self):
        schema = tuple([(letter, 1, 1) for letter in LETTERS])
        body = [atom(letter, var(letter), var(after)) for letter, after in zip(LETTERS, LETTERS[1:])]
        whole = join([], *body, atom("h", var("h"), val(0)))
        store = store_of(*[(letter, (at, other)) for letter in LETTERS for at in range(6) for other in (0, at, 5 - at)])
        for number in [0, 10**6, count_mendings(schema, store) - 1]:
            mending = mending_at(schema, store, number)
            if reckon(schema, store, whole)[0] == "sure":
                self.assertIsNone(walk(schema, store, whole, mending))
            else:
                self.check(schema, store, whole, mending)


if __name__ == "__main__":
    unittest.main()

import inspect
import itertools
import unittest

from everymending import mendings
from everymending.mendings import (
    count_mendings, exchanged, is_mending, mending_at, number_of)

GREAT = 10**5000

WORKS = (("open", 1, 0), ("works", 1, 1))
FORMS = (("best", 0, 1), ("day", 1, 1), ("open", 2, 0), ("rain", 0, 0), ("works", 2, 1))

# The facts of each block, in the order of the blocks; some blocks have one row, and some more.
FORMS_GROUPS = [
    [("best", (-1,)), ("best", (5,)), ("best", ("a",))],
    [("day", (-3, 7))],
    [("day", (2, 1)), ("day", (2, 9)), ("day", (2, 10)), ("day", (2, "a"))],
    [("day", ("a", 1)), ("day", ("a", "b"))],
    [("open", (1, 2))],
    [("open", (1, "x"))],
    [("rain", ())],
    [("works", ("ann", "bar", 1)), ("works", ("ann", "bar", 2))],
    [("works", ("ann", "shop", 1))],
    [("works", ("bob", "bar", 1)), ("works", ("bob", "bar", 7)), ("works", ("bob", "bar", "a"))],
]


def all_facts(groups):
    return tuple([fact for group in groups for fact in group])


def all_mendings(groups):
    """The mendings in ascending order of their numbers: the last block changes first."""
    return list(itertools.product(*groups))


# Small stores: the schema and the facts of each block.
SMALL = [
    ((), []),
    (WORKS, []),
    (WORKS, [[("open", ("bar",))]]),
    (WORKS, [[("open", ("bar",))], [("open", ("shop",))], [("works", ("ann", "bar"))]]),
    (WORKS, [[("works", ("ann", "bar")), ("works", ("ann", "shop"))]]),
    (WORKS, [[("works", ("ann", "bar")), ("works", ("ann", "shop"))], [("works", ("bob", "bar"))]]),
    (WORKS, [[("works", (1, 9)), ("works", (1, 10)), ("works", (1, "a"))],
             [("works", ("a", -1)), ("works", ("a", 0))]]),
    ((("rain", 0, 0),), [[("rain", ())]]),
    ((("best", 0, 1),), [[("best", (value,)) for value in [-GREAT, -2, 0, 9, 10, GREAT, "a"]]]),
    ((("t", 2, 0),), [[("t", (1, 1))], [("t", (1, 2))], [("t", (2, 1))]]),
    ((("a", 1, 1), ("b", 1, 1), ("c", 1, 0)),
     [[("a", (1, 1)), ("a", (1, 2))], [("b", (1, 1)), ("b", (1, 2)), ("b", (1, 3))], [("c", (1,))]]),
    (FORMS, FORMS_GROUPS),
]

# Stores of 200 facts whose mendings cannot be looked at one by one.
GREAT_GROUPS = [
    [[("works", (at, word)) for word in ["bar", "shop"]] for at in range(100)],
    [[("works", (at, one)) for one in range(3)] for at in range(66)]
    + [[("works", ("z", one)) for one in range(2)]],
    [[("open", (at,))] for at in range(-10, 10)]
    + [[("works", (at, one)) for one in range(at)] for at in range(1, 18)],
]


class Interface(unittest.TestCase):
    def test_functions_and_their_arguments(self):
        told = {"count_mendings": ["schema", "store"], "is_mending": ["schema", "store", "facts"],
                "mending_at": ["schema", "store", "n"],
                "number_of": ["schema", "store", "mending"],
                "exchanged": ["schema", "mending", "fact"]}
        for name, arguments in told.items():
            with self.subTest(name=name):
                function = getattr(mendings, name)
                self.assertEqual(function.__module__, "everymending.mendings")
                self.assertEqual(list(inspect.signature(function).parameters), arguments)

    def test_the_great_stores_are_within_the_bounds(self):
        for groups in GREAT_GROUPS:
            self.assertLessEqual(len(all_facts(groups)), 200)


class CountMendings(unittest.TestCase):
    def check(self, schema, store, told):
        found = count_mendings(schema, store)
        self.assertEqual(found, told)
        self.assertIs(type(found), int)

    def test_the_example(self):
        store = (("works", ("ann", "bar")), ("works", ("ann", "shop")), ("works", ("bob", "bar")))
        self.check((("works", 1, 1),), store, 2)

    def test_the_empty_store(self):
        for schema in [(), WORKS, FORMS, (("rain", 0, 0),)]:
            with self.subTest(schema=schema):
                self.check(schema, (), 1)

    def test_small_stores(self):
        for schema, groups in SMALL:
            with self.subTest(schema=schema, blocks=len(groups)):
                self.check(schema, all_facts(groups), len(all_mendings(groups)))

    def test_clean_stores(self):
        for groups in [FORMS_GROUPS, FORMS_GROUPS[::2], FORMS_GROUPS[1::2]]:
            self.check(FORMS, tuple([group[0] for group in groups]), 1)
            self.check(FORMS, tuple([group[-1] for group in groups]), 1)

    def test_a_table_without_key_columns(self):
        for many in range(1, 201):
            store = tuple([("best", (at,)) for at in range(many)])
            self.check((("best", 0, 1),), store, many)

    def test_a_table_without_other_columns(self):
        for many in [1, 2, 10, 200]:
            store = tuple([("open", (at,)) for at in range(many)])
            self.check(WORKS, store, 1)

    def test_great_stores(self):
        told = [2**100, 3**66 * 2]
        product = 1
        for many in range(1, 18):
            product = product * many
        for groups, many in zip(GREAT_GROUPS, told + [product]):
            self.check(WORKS, all_facts(groups), many)

    def test_two_schemas_by_turns(self):
        store = (("t", (1, 1)), ("t", (1, 2)), ("t", (2, 1)))
        for _ in range(3):
            self.check((("t", 1, 1),), store, 2)
            self.check((("t", 2, 0),), store, 1)
            self.check((("t", 0, 2),), store, 3)


class IsMending(unittest.TestCase):
    def check(self, schema, store, facts, told):
        self.assertIs(is_mending(schema, store, facts), told)

    def test_the_mendings_of_small_stores(self):
        for schema, groups in SMALL:
            for mending in all_mendings(groups):
                self.check(schema, all_facts(groups), mending, True)

    def test_the_empty_store(self):
        for schema in [(), WORKS, FORMS]:
            self.check(schema, (), (), True)
        self.check(WORKS, (), (("open", ("bar",)),), False)
        self.check(WORKS, (), (("works", ("ann", "bar")),), False)
        self.check((("rain", 0, 0),), (), (("rain", ()),), False)

    def test_no_facts(self):
        for schema, groups in SMALL:
            self.check(schema, all_facts(groups), (), len(groups) == 0)

    def test_a_block_left_out(self):
        for schema, groups in SMALL:
            for mending in all_mendings(groups)[::7]:
                for at in range(len(groups)):
                    self.check(schema, all_facts(groups), mending[:at] + mending[at + 1:], False)

    def test_two_facts_of_a_block(self):
        for schema, groups in SMALL:
            first = tuple([group[0] for group in groups])
            for at, group in enumerate(groups):
                for fact in group[1:]:
                    self.check(schema, all_facts(groups), first[:at + 1] + (fact,)
                               + first[at + 1:], False)

    def test_two_facts_of_a_block_in_the_place_of_another_one(self):
        store = (("t", (1, 1)), ("t", (1, 2)), ("t", (2, 1)), ("t", (2, 2)))
        schema = (("t", 1, 1),)
        for one in store:
            for other in store:
                self.check(schema, store, (one, other), one[1][0] == 1 and other[1][0] == 2)

    def test_the_whole_store(self):
        for schema, groups in SMALL:
            clean = all([len(group) == 1 for group in groups])
            self.check(schema, all_facts(groups), all_facts(groups), clean)

    def test_a_fact_that_the_store_does_not_have(self):
        store = all_facts(FORMS_GROUPS)
        first = tuple([group[0] for group in FORMS_GROUPS])
        # Each new fact has the key of a block of the store, or a key of its own.
        for at, facts in [(0, [("best", (0,)), ("best", (-GREAT,))]),
                          (1, [("day", (-3, 8)), ("day", (-2, 7))]),
                          (2, [("day", (2, 0)), ("day", (1, 1)), ("day", (-3, 7))]),
                          (4, [("open", (1, 3)), ("open", (0, 2))]),
                          (7, [("works", ("ann", "bar", 3)), ("works", ("ann", "barn", 1))]),
                          (9, [("works", ("bob", "bar", 0)), ("works", ("bob", "shop", 1))])]:
            for fact in facts:
                self.check(FORMS, store, first[:at] + (fact,) + first[at + 1:], False)
                self.check(FORMS, store, first[:at] + (fact,) + first[at:], False)
                self.check(FORMS, store, first[:at + 1] + (fact,) + first[at + 1:], False)
        self.check(FORMS, store, first, True)

    def test_a_fact_of_another_table(self):
        schema = (("a", 1, 1), ("b", 1, 1))
        self.check(schema, (("a", (1, 1)),), (("b", (1, 1)),), False)
        self.check(schema, (("b", (1, 1)),), (("a", (1, 1)),), False)
        store = (("a", (1, 1)), ("b", (1, 1)), ("b", (1, 2)))
        self.check(schema, store, (("a", (1, 1)), ("b", (1, 2))), True)
        self.check(schema, store, (("a", (1, 2)), ("b", (1, 1))), False)
        self.check(schema, store, (("a", (1, 1)), ("a", (1, 1))), False)

    def test_facts_in_another_order(self):
        store = all_facts(FORMS_GROUPS)
        first = tuple([group[0] for group in FORMS_GROUPS])
        self.check(FORMS, store, first[::-1], False)
        for at in range(len(first) - 1):
            swapped = first[:at] + (first[at + 1], first[at]) + first[at + 2:]
            self.check(FORMS, store, swapped, False)

    def test_facts_that_stand_twice(self):
        for schema, groups in SMALL:
            first = tuple([group[0] for group in groups])
            for at in range(len(first)):
                self.check(schema, all_facts(groups), first[:at] + (first[at],) + first[at:],
                           False)
            if len(first) > 0:
                self.check(schema, all_facts(groups), first + first, False)

    def test_facts_that_are_other_objects(self):
        mending = tuple([("".join(list(name)), tuple(list(row)))
                         for name, row in [group[-1] for group in FORMS_GROUPS]])
        self.check(FORMS, all_facts(FORMS_GROUPS), mending, True)

    def test_great_stores(self):
        for groups in GREAT_GROUPS:
            store = all_facts(groups)
            for shift in range(5):
                mending = tuple([group[(at + shift) % len(group)]
                                 for at, group in enumerate(groups)])
                self.check(WORKS, store, mending, True)
                self.check(WORKS, store, mending[:-1], False)
                self.check(WORKS, store, mending[1:], False)
                self.check(WORKS, store, mending + (("works", ("zz", 1)),), False)
            self.check(WORKS, store, store, False)

    def test_two_schemas_by_turns(self):
        store = (("t", (1, 1)), ("t", (1, 2)))
        for _ in range(3):
            self.check((("t", 1, 1),), store, store[:1], True)
            self.check((("t", 1, 1),), store, store, False)
            self.check((("t", 2, 0),), store, store[:1], False)
            self.check((("t", 2, 0),), store, store, True)
            self.check((("t", 0, 2),), store, store[1:], True)


class MendingAt(unittest.TestCase):
    def check(self, schema, store, n, told):
        found = mending_at(schema, store, n)
        self.assertTrue(found == told)
        if told is not None:
            self.assertIs(type(found), tuple)
            for fact in found:
                self.assertIs(type(fact), tuple)

    def test_the_example(self):
        store = (("works", ("ann", "bar")), ("works", ("ann", "shop")), ("works", ("bob", "bar")))
        self.check((("works", 1, 1),), store, 1,
                   (("works", ("ann", "shop")), ("works", ("bob", "bar"))))

    def test_all_mendings_of_small_stores(self):
        for schema, groups in SMALL:
            for n, mending in enumerate(all_mendings(groups)):
                with self.subTest(schema=schema, n=n):
                    self.check(schema, all_facts(groups), n, mending)

    def test_numbers_that_no_mending_has(self):
        for schema, groups in SMALL:
            store = all_facts(groups)
            many = len(all_mendings(groups))
            for n in [-1, -2, -many, -many - 1, -10**30, -GREAT,
                      many, many + 1, 2 * many, 10 * many + 3, many + 10**30, many * GREAT]:
                self.check(schema, store, n, None)
            self.check(schema, store, many - 1, tuple([group[-1] for group in groups]))

    def test_the_empty_store(self):
        for schema in [(), WORKS, FORMS]:
            self.check(schema, (), 0, ())
            for n in [-1, -2, 1, 2, 10**30]:
                self.check(schema, (), n, None)

    def test_the_first_block_counts_most(self):
        schema = (("t", 1, 1),)
        store = (("t", (1, 1)), ("t", (1, 2)), ("t", (2, 1)), ("t", (2, 2)), ("t", (2, 3)))
        told = [(0, 2), (0, 3), (0, 4), (1, 2), (1, 3), (1, 4)]
        for n, (first, last) in enumerate(told):
            self.check(schema, store, n, (store[first], store[last]))

    def test_great_stores(self):
        for groups in GREAT_GROUPS:
            store = all_facts(groups)
            many = 1
            for group in groups:
                many = many * len(group)
            first = tuple([group[0] for group in groups])
            last = tuple([group[-1] for group in groups])
            self.check(WORKS, store, 0, first)
            self.check(WORKS, store, 1, first[:-1] + (groups[-1][1],))
            self.check(WORKS, store, many - 1, last)
            self.check(WORKS, store, many - 2, last[:-1] + (groups[-1][-2],))
            for n in [-many, -1, many, many + 1, many * many]:
                self.check(WORKS, store, n, None)

    def test_one_block_after_the_other_in_great_stores(self):
        for groups in GREAT_GROUPS:
            store = all_facts(groups)
            first = tuple([group[0] for group in groups])
            weight = 1
            for at in range(len(groups) - 1, -1, -1):
                for index, fact in enumerate(groups[at]):
                    self.check(WORKS, store, index * weight, first[:at] + (fact,) + first[at + 1:])
                weight = weight * len(groups[at])

    def test_two_schemas_by_turns(self):
        store = (("t", (1, 1)), ("t", (1, 2)))
        for _ in range(3):
            self.check((("t", 1, 1),), store, 1, store[1:])
            self.check((("t", 2, 0),), store, 1, None)
            self.check((("t", 2, 0),), store, 0, store)
            self.check((("t", 0, 2),), store, 0, store[:1])


class NumberOf(unittest.TestCase):
    def check(self, schema, store, mending, told):
        found = number_of(schema, store, mending)
        self.assertEqual(found, told)
        self.assertIs(type(found), int)

    def test_all_mendings_of_small_stores(self):
        for schema, groups in SMALL:
            for n, mending in enumerate(all_mendings(groups)):
                self.check(schema, all_facts(groups), mending, n)

    def test_the_empty_store(self):
        for schema in [(), WORKS, FORMS]:
            self.check(schema, (), (), 0)

    def test_great_stores(self):
        for groups in GREAT_GROUPS:
            store = all_facts(groups)
            for shift in range(5):
                indexes = [(at * at + shift) % len(group) for at, group in enumerate(groups)]
                number = 0
                for index, group in zip(indexes, groups):
                    number = number * len(group) + index
                mending = tuple([group[index] for index, group in zip(indexes, groups)])
                self.check(WORKS, store, mending, number)
                self.assertEqual(mending_at(WORKS, store, number), mending)

    def test_a_mending_that_is_another_object(self):
        mending = tuple([("".join(list(name)), tuple(list(row)))
                         for name, row in [group[-1] for group in FORMS_GROUPS]])
        many = len(all_mendings(FORMS_GROUPS))
        self.check(FORMS, all_facts(FORMS_GROUPS), mending, many - 1)

    def test_two_schemas_by_turns(self):
        store = (("t", (1, 1)), ("t", (1, 2)))
        for _ in range(3):
            self.check((("t", 1, 1),), store, store[1:], 1)
            self.check((("t", 2, 0),), store, store, 0)
            self.check((("t", 0, 2),), store, store[1:], 1)


class Exchanged(unittest.TestCase):
    def check(self, schema, mending, fact, told):
        found = exchanged(schema, mending, fact)
        self.assertTrue(found == told)
        self.assertIs(type(found), tuple)

    def test_each_fact_of_small_stores(self):
        for schema, groups in SMALL:
            for mending in all_mendings(groups)[::5]:
                for at, group in enumerate(groups):
                    for fact in group:
                        self.check(schema, mending, fact,
                                   mending[:at] + (fact,) + mending[at + 1:])

    def test_the_fact_that_is_there(self):
        for schema, groups in SMALL:
            mending = tuple([group[-1] for group in groups])
            for name, row in mending:
                self.check(schema, mending, (name, row), mending)
                self.check(schema, mending, ("".join(list(name)), tuple(list(row))), mending)

    def test_a_fact_that_stands_in_no_store(self):
        mending = tuple([group[0] for group in FORMS_GROUPS])
        for at, fact in [(0, ("best", (GREAT,))), (1, ("day", (-3, -GREAT))), (2, ("day", (2, "z"))),
                         (3, ("day", ("a", 0))), (7, ("works", ("ann", "bar", 99))),
                         (8, ("works", ("ann", "shop", "a")))]:
            self.check(FORMS, mending, fact, mending[:at] + (fact,) + mending[at + 1:])

    def test_only_in_the_table_of_the_fact(self):
        schema = (("a", 1, 1), ("b", 1, 1), ("c", 0, 1))
        mending = (("a", (1, 1)), ("b", (1, 1)), ("c", (1,)))
        self.check(schema, mending, ("a", (1, 2)), (("a", (1, 2)),) + mending[1:])
        self.check(schema, mending, ("b", (1, 2)), mending[:1] + (("b", (1, 2)),) + mending[2:])
        self.check(schema, mending, ("c", (2,)), mending[:2] + (("c", (2,)),))

    def test_only_in_the_block_of_the_whole_key(self):
        schema = (("t", 2, 1),)
        mending = (("t", (1, 1, 5)), ("t", (1, 2, 5)), ("t", (2, 1, 5)), ("t", (2, 2, 5)))
        for at, (name, row) in enumerate(mending):
            fact = (name, row[:2] + (6,))
            self.check(schema, mending, fact, mending[:at] + (fact,) + mending[at + 1:])

    def test_great_stores(self):
        for groups in GREAT_GROUPS:
            mending = tuple([group[0] for group in groups])
            for at, group in enumerate(groups):
                self.check(WORKS, mending, group[-1],
                           mending[:at] + (group[-1],) + mending[at + 1:])

    def test_the_mending_stays_as_it_was(self):
        mending = (("works", ("ann", "bar")), ("works", ("bob", "bar")))
        self.check(WORKS, mending, ("works", ("ann", "shop")),
                   (("works", ("ann", "shop")), ("works", ("bob", "bar"))))
        self.assertEqual(mending, (("works", ("ann", "bar")), ("works", ("bob", "bar"))))

    def test_two_schemas_by_turns(self):
        for _ in range(3):
            self.check((("t", 1, 1),), (("t", (1, 1)),), ("t", (1, 2)), (("t", (1, 2)),))
            self.check((("t", 0, 2),), (("t", (1, 1)),), ("t", (2, 2)), (("t", (2, 2)),))
            self.check((("t", 1, 1),), (("t", (1, 1)), ("t", (2, 1))), ("t", (2, 2)),
                       (("t", (1, 1)), ("t", (2, 2))))


if __name__ == "__main__":
    unittest.main()

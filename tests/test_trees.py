import inspect
import unittest

import plain
from everymending import trees
from everymending.mendings import count_mendings, is_mending
from everymending.plainly import holds
from everymending.questions import check_question, put_row
from everymending.reading import read_question
from everymending.trees import decide, judge_tree
from plain import Chances, atom, closed, store_of, val, var

X, Y, Z = var("x"), var("y"), var("z")
WORKS = (("open", 1, 0), ("works", 1, 1))
CHAIN = (("r", 1, 1), ("s", 1, 1), ("t", 1, 0))
FORMS = [(0, 0), (0, 1), (0, 2), (1, 0), (1, 1), (1, 1), (1, 2), (2, 0), (2, 1)]


class Checked(unittest.TestCase):
    def check_sure(self, schema, store, question):
        found = decide(schema, store, question)
        self.assertIs(type(found), tuple)
        self.assertEqual(found[0], "sure")
        self.assertIs(judge_tree(schema, store, question, found[1]), True)
        return found[1]

    def check_fails(self, schema, store, question):
        found = decide(schema, store, question)
        self.assertEqual(found[0], "fails")
        self.assertTrue(is_mending(schema, store, found[1]))
        self.assertFalse(holds(found[1], question))
        return found[1]


class Interface(unittest.TestCase):
    def test_functions_and_their_arguments(self):
        told = {"decide": ["schema", "store", "question"], "judge_tree": ["schema", "store", "question", "tree"]}
        for name, arguments in told.items():
            function = getattr(trees, name)
            self.assertEqual(function.__module__, "everymending.trees")
            self.assertEqual(list(inspect.signature(function).parameters), arguments)


class Decided(Checked):
    def test_questions_without_joins(self):
        for store in [(), store_of(("open", (1,)), ("works", (1, 2)), ("works", (1, 3)))]:
            self.check_fails(WORKS, store, closed())
        self.assertEqual(decide((), (), closed()), ("fails", ()))

    def test_joins_without_atoms(self):
        for store in [(), store_of(("open", (1,)), ("works", (1, 2)), ("works", (1, 3)))]:
            self.assertEqual(decide(WORKS, store, closed([])), ("sure", ("leaf", 0, ())))
            self.check_sure(WORKS, store, closed([atom("open", val(7))], []))

    def test_the_empty_store(self):
        for question in [closed([atom("works", X, Y)]), closed([atom("open", val(1))], [atom("works", X, Y)])]:
            self.assertEqual(decide(WORKS, (), question), ("fails", ()))

    def test_leaves(self):
        store = store_of(("open", (2,)), ("works", (1, 2)))
        self.assertEqual(decide(WORKS, store, closed([atom("works", Y, X), atom("open", X)])),
                         ("sure", ("leaf", 0, (("x", 2), ("y", 1)))))
        self.assertEqual(decide(WORKS, store, closed([atom("open", Y), atom("open", val(1))], [atom("open", X)])),
                         ("sure", ("leaf", 1, (("x", 2),))))
        self.assertEqual(decide(WORKS, store, closed([atom("open", val(2))])), ("sure", ("leaf", 0, ())))

    def test_splits(self):
        store = store_of(("open", (2,)), ("open", (3,)), ("works", (1, 2)), ("works", (1, 3)))
        self.assertEqual(decide(WORKS, store, closed([atom("works", X, Y), atom("open", Y)])),
                         ("sure", ("split", "works", (1,), (((1, 2), ("leaf", 0, (("x", 1), ("y", 2)))),
                                                            ((1, 3), ("leaf", 0, (("x", 1), ("y", 3))))))))
        self.assertEqual(self.check_fails(WORKS, store[:1] + store[2:], closed([atom("works", X, Y), atom("open", Y)])),
                         (("open", (2,)), ("works", (1, 3))))

    def test_joins_that_are_sure_together_but_not_one_by_one(self):
        store = store_of(("works", (1, 2)), ("works", (1, 3)), ("works", (1, 4)))
        bodies = [[atom("works", X, val(value))] for value in (2, 3, 4)]
        self.check_sure(WORKS, store, closed(*bodies))
        self.check_sure(WORKS, store, closed(*bodies[::-1]))
        for left in range(3):
            self.check_fails(WORKS, store, closed(*[body for at, body in enumerate(bodies) if at != left]))

    def test_joins_in_which_a_table_stands_twice(self):
        store = store_of(("works", (1, 2)), ("works", (1, 3)), ("works", (2, 3)), ("works", (3, 2)))
        self.check_sure(WORKS, store, closed([atom("works", X, Y), atom("works", Y, Z)]))
        self.check_sure(WORKS, store, closed([atom("works", val(1), X), atom("works", X, Y), atom("works", Y, X)]))
        self.check_fails(WORKS, store, closed([atom("works", X, val(2)), atom("works", X, val(3))]))
        self.check_sure(WORKS, store, closed([atom("works", X, Z), atom("works", Y, Z), atom("works", Z, val(2))]))
        self.check_fails(WORKS, store[:2], closed([atom("works", X, val(2)), atom("works", X, val(3))]))

    def test_joins_without_a_plan(self):
        schema = (("r", 1, 1), ("s", 1, 1))
        question = closed([atom("r", X, Y), atom("s", Y, X)])
        ring = [(name, (at, other)) for name in "rs" for at in (1, 2) for other in (1, 2)]
        self.check_fails(schema, store_of(*ring), question)
        self.check_sure(schema, store_of(*ring[:4], ("s", (1, 1)), ("s", (2, 1))), question)

    def test_blocks_of_tables_that_no_atom_names(self):
        schema = CHAIN + (("z", 1, 1),)
        many = [("z", (at, other)) for at in range(60) for other in (1, 2, 3)]
        store = store_of(("r", (1, 1)), ("r", (1, 2)), ("t", (1,)), ("t", (2,)), *many)
        self.check_sure(schema, store, closed([atom("r", X, Y), atom("t", Y)]))
        self.assertEqual(len(self.check_fails(schema, store, closed([atom("r", X, val(1)), atom("t", X)]))), 63)

    def test_all_mendings_but_one(self):
        schema = (("a", 1, 1), ("b", 0, 2), ("c", 1, 1))
        store = store_of(*[(name, (1, value)) for name in "abc" for value in (1, 2)], ("c", (2, 1)), ("c", (2, 2)))
        for bad in plain.mendings(schema, store):
            bodies = [[atom(name, *[val(value) for value in row])] for name, row in store if (name, row) not in bad]
            self.assertEqual(decide(schema, store, closed(*bodies)), ("fails", bad))
            whole = [atom(name, *[val(value) for value in row]) for name, row in bad]
            self.check_sure(schema, store, closed(*bodies, whole))

    def test_questions_with_rows_put_in(self):
        question = read_question(WORKS, "[x] works(x | y), open(y |); [x] open(x |)")
        store = store_of(("open", (2,)), ("open", (3,)), ("works", (1, 2)), ("works", (1, 3)), ("works", (4, 2)),
                         ("works", (4, 4)))
        self.check_sure(WORKS, store, put_row(question, (1,)))
        self.check_sure(WORKS, store, put_row(question, (2,)))
        self.check_fails(WORKS, store, put_row(question, (4,)))
        self.check_fails(WORKS, store, put_row(question, (5,)))

    def test_made_up_cases(self):
        chances = Chances(13)
        seen = {"leaf": 0, "split": 0, "fails": 0}
        while min(seen.values()) < 80:
            schema = chances.schema(FORMS, 4)
            values = chances.pick([[1, 2], [1, 2, "a"]])
            store = chances.store(schema, chances.below(16), values)
            if plain.number_of_mendings(schema, store) > 200:
                continue
            question = closed(*[chances.body(schema, 1 + chances.below(3), ["x", "y", "z"], values)
                                for _ in range(chances.below(5))])
            check_question(schema, question)
            bad = plain.failing(schema, store, question)
            verdict, found = decide(schema, store, question)
            if bad:
                self.assertEqual(verdict, "fails")
                self.assertIn(found, bad)
                seen["fails"] += 1
            else:
                self.assertEqual(verdict, "sure")
                self.assertTrue(plain.is_tree(schema, store, question, found))
                self.assertIs(judge_tree(schema, store, question, found), True)
                seen[found[0]] += 1


class Judged(unittest.TestCase):
    SMALL = [
        (WORKS, closed([atom("works", X, Y), atom("open", Y)]),
         store_of(("open", (1,)), ("open", ("b",)), ("works", ("a", 1)), ("works", ("a", "b")), ("works", (1, 7)))),
        (CHAIN, closed([atom("r", X, Y), atom("s", Y, Z), atom("t", Z)], [atom("s", val(2), val(2))]),
         store_of(("r", (1, 1)), ("r", (1, 2)), ("s", (1, 1)), ("s", (2, 1)), ("s", (2, 2)), ("t", (1,)))),
        (WORKS, closed([atom("open", X), atom("works", X, Y)], [atom("open", Y)]), store_of(("open", (1,)))),
        (WORKS, closed([]), store_of(("works", (1, 1)), ("works", (1, 2)))),
        (CHAIN, closed(*[[atom("r", X, val(one)), atom("s", X, val(two))] for one in (1, 2) for two in (1, 2)]),
         store_of(*[(name, (1, value)) for name in "rs" for value in (1, 2)])),
    ]

    def judge(self, number, tree, verdict):
        schema, question, store = self.SMALL[number]
        self.assertIs(judge_tree(schema, store, question, tree), verdict)

    def test_trees_that_are_wrong_in_one_place(self):
        for schema, question, store in self.SMALL:
            tree = decide(schema, store, question)[1]
            self.assertIs(judge_tree(schema, store, question, tree), True)
            wrong = 0
            for other in plain.changed(tree):
                if isinstance(other, tuple):
                    right = plain.is_tree(schema, store, question, other)
                    self.assertIs(judge_tree(schema, store, question, other), right, other)
                    wrong += not right
            self.assertGreater(wrong, 10)

    def test_trees_that_are_wrong_twice(self):
        chances = Chances(14)
        for schema, question, store in self.SMALL[2:4]:
            for other in plain.changed(decide(schema, store, question)[1]):
                for twice in plain.changed(other):
                    if isinstance(twice, tuple) and not chances.below(4):
                        right = plain.is_tree(schema, store, question, twice)
                        self.assertIs(judge_tree(schema, store, question, twice), right, twice)

    def test_leaves(self):
        self.judge(2, ("leaf", 1, (("y", 1),)), True)
        for tree in [("leaf", 1, (("y", 2),)), ("leaf", 1, (("x", 1),)), ("leaf", 1, ()), ("leaf", 1, (("y", "a"),)),
                     ("leaf", 1, (("x", 1), ("y", 1))), ("leaf", 0, (("y", 1),)), ("leaf", 0, (("x", 1), ("y", 1))),
                     ("leaf", -1, (("y", 1),)), ("leaf", 2, (("y", 1),)), ("leaf", "1", (("y", 1),)),
                     ("leaf", 1, (("y", 1, 1),)), ("leaf", 1, (("y",),)), ("leaf", 1, ("y", 1)), ("leaf", 1, "y"),
                     ("leaf", 1, (("y", (1,)),)), ("leaf", 1, (("y", "1"),)), ("leaf", 1), ("leaf", 1, (("y", 1),), ()),
                     ("Leaf", 1, (("y", 1),)), ("leaf", 1, 1), ("leaf", 1, (("y", 1), ("y", 1)))]:
            self.judge(2, tree, False)

    def test_values_that_are_tuples(self):
        for question in [closed([atom("open", X)]), closed([atom("works", val(1), X)])]:
            store = store_of(("open", (1,)), ("works", (1, 1)))
            value = (1,)
            for _ in range(10000):
                self.assertIs(judge_tree(WORKS, store, question, ("leaf", 0, (("x", value),))), False)
                value = (value, value)

    def test_all_variables_in_order(self):
        store = store_of(("works", (1, 2)))
        question = closed([atom("works", Y, X)])
        for valuation, verdict in [((("x", 2), ("y", 1)), True), ((("y", 1), ("x", 2)), False), ((("x", 2),), False),
                                   ((("x", 1), ("y", 2)), False), ((("x", 2), ("y", 1), ("z", 1)), False)]:
            self.assertIs(judge_tree(WORKS, store, question, ("leaf", 0, valuation)), verdict)

    def test_leaves_take_settled_facts_only(self):
        first, second = ("leaf", 0, (("x", "a"), ("y", 1))), ("leaf", 0, (("x", "a"), ("y", "b")))
        self.judge(0, first, False)
        for one, other, verdict in [(first, second, True), (second, first, False), (first, first, False),
                                    (second, second, False)]:
            self.judge(0, ("split", "works", ("a",), ((("a", 1), one), (("a", "b"), other))), verdict)

    def test_each_atom_becomes_a_fact_of_the_store(self):
        self.judge(0, ("leaf", 0, (("x", 1), ("y", 7))), False)
        self.judge(0, ("leaf", 0, (("x", 1), ("y", 1))), False)

    def test_splits(self):
        leaf = ("leaf", 0, ())
        rows = ((1, 1), (1, 2))
        self.judge(3, ("split", "works", (1,), tuple([(row, leaf) for row in rows])), True)
        for tree in [("split", "works", (1,), tuple([(row, leaf) for row in rows[::-1]])),
                     ("split", "works", (1,), ((rows[0], leaf),)), ("split", "works", (1,), ()),
                     ("split", "works", (1,), ((rows[0], leaf), (rows[0], leaf))),
                     ("split", "works", (1,), tuple([(row, leaf) for row in rows + ((1, 3),)])),
                     ("split", "works", (2,), tuple([(row, leaf) for row in rows])),
                     ("split", "open", (1,), tuple([(row, leaf) for row in rows])),
                     ("split", "works", 1, tuple([(row, leaf) for row in rows])),
                     ("split", "works", (1, 1), tuple([(row, leaf) for row in rows])),
                     ("split", "works", (1,), tuple([(row, leaf, leaf) for row in rows])),
                     ("split", "works", (1,), tuple([(leaf, row) for row in rows])),
                     ("split", "works", (1,), rows), ("split", "works", (1,)),
                     ("split", "works", (1,), tuple([(row, ()) for row in rows]))]:
            self.judge(3, tree, False)

    def test_blocks_of_one_row_are_not_split(self):
        self.judge(2, ("split", "open", (1,), (((1,), ("leaf", 1, (("y", 1),))),)), False)
        leaf = ("leaf", 0, ())
        store = store_of(("works", (1, 1)))
        self.assertIs(judge_tree(WORKS, store, closed([]), ("split", "works", (1,), (((1, 1), leaf),))), False)

    def test_no_block_is_split_twice(self):
        leaf = ("leaf", 0, ())
        inner = ("split", "works", (1,), (((1, 1), leaf), ((1, 2), leaf)))
        self.judge(3, ("split", "works", (1,), (((1, 1), inner), ((1, 2), leaf))), False)
        self.judge(3, ("split", "works", (1,), (((1, 1), leaf), ((1, 2), inner))), False)
        self.judge(3, ("split", "works", (1,), (((1, 1), inner), ((1, 2), inner))), False)

    def test_the_choices_of_one_branch_are_not_those_of_another(self):
        def leaf(one, two):
            return ("leaf", 2 * (one - 1) + two - 1, (("x", 1),))

        def below(one, two, other):
            return ("split", "s", (1,), (((1, 1), leaf(one, two)), ((1, 2), leaf(one, other))))

        for first, second, verdict in [((1, 1, 2), (2, 1, 2), True), ((1, 1, 2), (1, 1, 2), False),
                                       ((2, 1, 2), (2, 1, 2), False), ((1, 1, 1), (2, 1, 2), False),
                                       ((1, 1, 2), (2, 2, 2), False), ((2, 1, 2), (1, 1, 2), False)]:
            self.judge(4, ("split", "r", (1,), (((1, 1), below(*first)), ((1, 2), below(*second)))), verdict)
        # The blocks may be split in another order, too, and each branch in its own.
        turned = ("split", "s", (1,), tuple([((1, two), ("split", "r", (1,), tuple(
            [((1, one), leaf(one, two)) for one in (1, 2)]))) for two in (1, 2)]))
        self.judge(4, turned, True)

    def test_equal_branches_under_other_choices(self):
        schema = (("a", 1, 1), ("b", 1, 1), ("c", 1, 1))
        store = store_of(*[(name, (1, value)) for name in "abc" for value in (1, 2)])
        question = closed([atom("a", val(1), val(1))], [atom("a", val(1), X), atom("b", val(1), val(1))],
                          [atom("c", val(1), X)])

        def split(name, first, second):
            return ("split", name, (1,), (((1, 1), first), ((1, 2), second)))

        wide = split("c", *[("leaf", 2, (("x", value),)) for value in (1, 2)])
        needs = split("c", ("leaf", 0, ()), ("leaf", 0, ()))
        for tree, verdict in [(split("a", wide, wide), True), (split("b", wide, wide), True),
                              (split("c", wide, wide), False), (split("a", needs, wide), True),
                              (split("a", needs, needs), False), (split("a", wide, needs), False),
                              (split("b", split("a", needs, wide), split("a", needs, wide)), True),
                              (split("b", split("a", needs, wide), split("a", wide, needs)), False),
                              (split("b", split("a", needs, wide), needs), False),
                              (split("b", needs, split("a", needs, wide)), False),
                              (split("a", split("b", needs, needs), split("b", wide, wide)), True),
                              (split("a", split("b", needs, wide), split("b", wide, needs)), False),
                              (split("a", split("b", wide, wide), wide), True),
                              (split("a", split("b", wide, wide), split("b", wide, wide)), True),
                              (split("a", split("b", wide, wide), split("c", *[split("b", wide, wide)] * 2)),
                               False)]:
            self.assertIs(judge_tree(schema, store, question, tree), verdict, tree)
            self.assertEqual(plain.is_tree(schema, store, question, tree), verdict)

    def test_trees_of_other_stores_and_questions(self):
        schema, question, store = self.SMALL[0]
        tree = decide(schema, store, question)[1]
        self.assertIs(judge_tree(schema, (), question, tree), False)
        self.assertIs(judge_tree(schema, store[1:], question, tree), False)
        self.assertIs(judge_tree(schema, store_of(*store, ("works", ("a", 9))), question, tree), False)
        self.assertIs(judge_tree(schema, store, closed(), tree), False)
        self.assertIs(judge_tree(schema, store, closed([atom("open", X)], *[body for _, body in question[1]]), tree),
                      False)
        self.assertIs(judge_tree(schema, store, closed(question[1][0][1], [atom("open", X)]), tree), True)

    def test_tuples_that_are_no_trees(self):
        for schema, question, store in self.SMALL:
            for at, other in enumerate(plain.no_tuples(10000)):
                self.assertIs(judge_tree(schema, store, question, other), False, at)
        store = store_of(("r", (1, 1)), ("r", (1, 2)))
        for at, other in enumerate(plain.no_tuples(10000)):
            for question in [closed(), closed([]), closed([atom("r", X, Y)])]:
                self.assertIs(judge_tree(CHAIN, store, question, other), False, at)

    def test_made_up_cases(self):
        chances = Chances(15)
        told = {True: 0, False: 0}
        while told[True] < 300:
            schema = chances.schema(FORMS, 3)
            store = chances.store(schema, chances.below(10), [1, 2])
            question = closed(*[chances.body(schema, chances.below(3), ["x", "y", "z"], [1, 2])
                                for _ in range(chances.below(4))])
            verdict, tree = decide(schema, store, question)
            if verdict == "fails":
                continue
            for other in plain.changed(tree):
                if isinstance(other, tuple) and not chances.below(10):
                    right = plain.is_tree(schema, store, question, other)
                    self.assertIs(judge_tree(schema, store, question, other), right)
                    told[right] += 1
            told[True] += 1
        self.assertGreater(told[False], 300)


class VeryManyMendings(unittest.TestCase):
    SCHEMA = (("r", 1, 1), ("z", 0, 0))
    STORE = store_of(*[("r", (at, value)) for at in range(99) for value in (0, 1)], ("z", ()))

    def judge(self, question, tree, verdict):
        self.assertIs(judge_tree(self.SCHEMA, self.STORE, question, tree), verdict)

    def test_small_trees(self):
        self.assertEqual(count_mendings(self.SCHEMA, self.STORE), 2**99)
        self.judge(closed([atom("z")]), ("leaf", 0, ()), True)
        split = ("split", "r", (5,), tuple([((5, value), ("leaf", 0, (("x", value),))) for value in (0, 1)]))
        self.judge(closed([atom("r", val(5), X)]), split, True)
        self.judge(closed([atom("r", val(6), X)]), split, False)

    def test_trees_with_one_long_branch(self):
        question = closed([atom("r", X, val(0))], [atom("z")])
        for end, verdict in [(("leaf", 1, ()), True), (("leaf", 0, (("x", 3),)), False), ((), False)]:
            tree = end
            for at in range(99):
                tree = ("split", "r", (at,), (((at, 0), ("leaf", 0, (("x", at),))), ((at, 1), tree)))
            self.judge(question, tree, verdict)
            for at in (0, 98):
                again = ("split", "r", (at,), (((at, 0), tree), ((at, 1), tree)))
                self.judge(question, again, False)

    def test_trees_with_very_many_equal_branches(self):
        for leaf, verdict in [(("leaf", 0, ()), True), (("leaf", 0, (("x", 1),)), False), (("leaf", 1, ()), False)]:
            tree = leaf
            for at in range(99):
                tree = ("split", "r", (at,), (((at, 0), tree), ((at, 1), tree)))
            self.judge(closed([atom("z")]), tree, verdict)

    def test_one_wrong_leaf_among_very_many(self):
        good, bad = ("leaf", 0, ()), ("leaf", 0, (("x", 1),))
        for at in range(99):
            good, bad = (("split", "r", (at,), (((at, 0), good), ((at, 1), good))),
                         ("split", "r", (at,), (((at, 0), good), ((at, 1), bad))))
        self.judge(closed([atom("z")]), good, True)
        self.judge(closed([atom("z")]), bad, False)

    def test_trees_deeper_than_any_right_one(self):
        tree = ("leaf", 0, ())
        for at in range(9900):
            tree = ("split", "r", (at // 100,), (((at // 100, 0), tree), ((at // 100, 1), tree)))
        self.judge(closed([atom("z")]), tree, False)


if __name__ == "__main__":
    unittest.main()

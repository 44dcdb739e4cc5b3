import inspect
import unittest

import plain
from everymending import asking
from everymending.asking import best_strategy, depth_of, judge_strategy
from everymending.mendings import count_mendings
from everymending.questions import check_question, put_row
from everymending.reading import read_book, read_question
from plain import Chances, closed, store_of

WORKS = (("open", 1, 0), ("works", 1, 1))
FORMS = [(0, 0), (0, 1), (0, 2), (1, 0), (1, 1), (1, 1), (1, 2), (2, 0), (2, 1)]
YES, NO = ("tell", 1), ("tell", 0)


def works(*rows):
    return [("works", row) for row in rows]


def opened(*values):
    return [("open", (value,)) for value in values]


def ask(key, *branches):
    """Asks about a block of `works`."""
    return ("ask", "works", (key,), branches)


class Interface(unittest.TestCase):
    def test_functions_and_their_arguments(self):
        told = {"judge_strategy": ["schema", "store", "question", "strategy"],
                "best_strategy": ["schema", "store", "question"], "depth_of": ["strategy"]}
        for name, arguments in told.items():
            function = getattr(asking, name)
            self.assertEqual(function.__module__, "everymending.asking")
            self.assertEqual(list(inspect.signature(function).parameters), arguments)


class Best(unittest.TestCase):
    def best(self, text, store):
        question = read_question(WORKS, text)
        strategy = best_strategy(WORKS, store, question)
        self.assertIs(judge_strategy(WORKS, store, question, strategy), True)
        return strategy

    def check(self, text, store, depth):
        self.assertEqual(depth_of(self.best(text, store)), depth)

    def test_the_example(self):
        found = read_book('table open 1 0\ntable works 1 1\nopen("bar" |)\nworks("ann" | "bar")\nworks("ann" | "shop")')
        schema = found[0]
        store = found[1]
        self.assertEqual(best_strategy(schema, store, read_question(schema, '[] works(x | y), open(y |)')),
                         ('ask', 'works', ('ann',), ((('ann', 'bar'), ('tell', 1)), (('ann', 'shop'), ('tell', 0)))))

    def test_the_empty_store(self):
        self.assertEqual(self.best("[] works(x | y)", ()), NO)
        self.assertEqual(self.best("none 0", ()), NO)
        self.assertEqual(self.best("[]", ()), YES)

    def test_questions_without_joins_and_joins_without_atoms(self):
        store = store_of(*works((1, 2), (1, 3)))
        self.assertEqual(self.best("none 0", store), NO)
        self.assertEqual(self.best("[]", store), YES)
        self.assertEqual(self.best("[] works(x | 2); []", store), YES)

    def test_clean_stores(self):
        store = store_of(*works((1, 2), (2, 3)), *opened(2))
        self.assertEqual(self.best("[] works(x | y), open(y |)", store), YES)
        self.assertEqual(self.best("[] works(x | 9)", store), NO)

    def test_questions_that_are_sure_or_hold_in_no_mending(self):
        store = store_of(*works((1, 2), (1, 3), (4, 2), (4, 3)))
        for text in ["[] works(1 | x)", "[] works(1 | 2); [] works(1 | 3)",
                     "[] works(x | 3); [] works(1 | 2), works(4 | 2)"]:
            self.assertEqual(self.best(text, store), YES)
        for text in ["[] works(x | 9)", "[] works(x | 2), works(x | 3)", "[] works(x | y), works(y | z)"]:
            self.assertEqual(self.best(text, store), NO)

    def test_blocks_that_do_not_matter_are_not_asked_about(self):
        store = store_of(*works((1, 2), (1, 3), (4, 5), (4, 6), (7, 5), (7, 8)))
        self.assertEqual(self.best("[] works(4 | 6)", store), ask(4, ((4, 5), NO), ((4, 6), YES)))
        self.assertEqual(self.best("[] works(4 | 6), works(1 | x)", store), ask(4, ((4, 5), NO), ((4, 6), YES)))
        self.check("[] works(4 | 6), works(x | 5)", store, 2)

    def test_rows_of_a_block_stand_in_order(self):
        store = store_of(*works((1, "a"), (1, 10), (1, 9), (1, -1), (1, "aa")))
        self.assertEqual(self.best("[] works(x | 9); [] works(x | \"aa\")", store),
                         ask(1, ((1, -1), NO), ((1, 9), YES), ((1, 10), NO), ((1, "a"), NO), ((1, "aa"), YES)))

    def test_tables_without_key_columns(self):
        schema = (("best", 0, 1), ("rain", 0, 0))
        store = store_of(("best", (5,)), ("best", ("a",)), ("rain", ()))
        question = read_question(schema, "[] best(| 5), rain(|)")
        strategy = ("ask", "best", (), (((5,), YES), (("a",), NO)))
        self.assertEqual(best_strategy(schema, store, question), strategy)
        self.assertIs(judge_strategy(schema, store, question, strategy), True)

    def test_the_first_row_tells_what_to_ask_next(self):
        # Whether 2 or 3 is asked about next depends on what is told about 1: three askings are too many.
        store = store_of(*works((1, 2), (1, 3), (2, 0), (2, 9), (3, 0), (3, 9)))
        self.assertEqual(self.best("[] works(1 | x), works(x | 0)", store),
                         ask(1, ((1, 2), ask(2, ((2, 0), YES), ((2, 9), NO))),
                             ((1, 3), ask(3, ((3, 0), YES), ((3, 9), NO)))))

    def test_depths(self):
        store = store_of(*works(*[(at, value) for at in (1, 2, 3, 4) for value in (0, 5)]))
        self.check("[] works(x | 0)", store, 4)
        self.check("[] works(1 | 0), works(2 | 0), works(3 | 0), works(4 | 0)", store, 4)
        self.check("[] works(1 | 0), works(2 | 0); [] works(3 | 0), works(4 | 0)", store, 4)
        self.check("[] works(1 | 0), works(2 | 0); [] works(1 | 5), works(3 | 0)", store, 2)
        self.check("[] works(1 | 0), works(2 | 0); [] works(1 | 5), works(2 | 5)", store, 2)
        self.check("[] works(1 | 0), works(2 | 0); [] works(1 | 5), works(3 | 0); [] works(4 | 5)", store, 3)
        self.check("[] works(1 | 0), works(2 | 0); [] works(1 | 0), works(2 | 5), works(3 | 0)", store, 3)
        self.check("[] works(1 | 0), works(2 | 0); [] works(1 | 0), works(2 | 5)", store, 1)

    def test_what_stands_in_most_lots_is_not_always_asked_about_first(self):
        # Each block has the rows a and b; 1a stands for the row a of the block 1.
        for depth, told in [(1, "0a, 1a; 0b, 1a"), (2, "0a; 1a, 3a; 1b, 2a, 3a; 1b, 2b, 3a"),
                            (2, "2a, 6a; 2b, 5a, 6a; 2b, 5b, 6a; 4a"),
                            (2, "0a, 1a, 2b; 0a, 3a; 0b, 2b, 3b; 1b, 2b, 3b"),
                            (5, "0a, 1a, 4a; 0b, 1a, 4a; 1b; 2a, 3b, 5b"),
                            (5, "0a, 6b; 0b, 6b; 1b, 2a, 3a; 1b, 3a, 4a; 2b, 4b, 5b; 3b"),
                            (6, "0a, 3b, 4b; 0b, 3b, 4b; 1a, 2b, 5b; 6b"),
                            (6, "0b; 1a, 5b, 6b; 1b, 5b; 2a, 6b; 3a, 4b"),
                            (6, "0a, 2a, 4b; 0a, 5a, 6b; 1b, 6a; 2b, 3a; 4a, 5b"),
                            (6, "0a, 1a; 0a, 2b, 4a; 0a, 3a, 4a; 0a, 5a, 6b; 0b, 4a; 2a, 3a, 4b")]:
            store = store_of(*works(*[(at, row) for at in range(7) for row in "ab"]))
            text = "; ".join(["[] " + ", ".join([f'works({fact[0]} | "{fact[1]}")' for fact in lot.split(", ")])
                              for lot in told.split("; ")])
            self.check(text, store, depth)
            self.assertEqual(plain.least_depth(WORKS, store, read_question(WORKS, text)), depth)

    def test_made_up_lots(self):
        chances = Chances(26)
        seen = {depth: 0 for depth in range(6)}
        while min(list(seen.values())[1:5]) < 12:
            many = 3 + chances.below(3)
            rows = [(at, value) for at in range(many) for value in range(chances.pick([2, 2, 3]))]
            store = store_of(*works(*rows))
            bodies = [", ".join(["works({} | {})".format(*chances.pick(rows)) for _ in range(1 + chances.below(4))])
                      for _ in range(2 + chances.below(5))]
            question = read_question(WORKS, "; ".join(["[] " + body for body in bodies]))
            strategy = best_strategy(WORKS, store, question)
            depth = plain.least_depth(WORKS, store, question)
            self.assertEqual(plain.depth(strategy), depth)
            self.assertTrue(plain.is_strategy(WORKS, store, question, strategy))
            seen[depth] += 1

    def test_questions_with_rows_put_in(self):
        store = store_of(*works((1, 2), (1, 3), (4, 2), (4, 5)), *opened(2))
        question = read_question(WORKS, "[x] works(x | y), open(y |)")
        self.assertEqual(best_strategy(WORKS, store, put_row(question, (4,))), ask(4, ((4, 2), YES), ((4, 5), NO)))
        self.assertEqual(best_strategy(WORKS, store, put_row(question, (5,))), NO)

    def test_made_up_cases(self):
        chances = Chances(24)
        seen = [0, 0, 0, 0]
        while min(seen) < 25:
            schema = chances.schema(FORMS, 3)
            values = chances.pick([[1, 2], [1, 2, "a"], [1, 2, 3]])
            store = chances.store(schema, 4 + chances.below(12), values)
            if not 2 <= plain.number_of_mendings(schema, store) <= 100:
                continue
            question = closed(*[chances.body(schema, 1 + chances.below(3), ["x", "y", "z"], values)
                                for _ in range(chances.below(4))])
            check_question(schema, question)
            strategy = best_strategy(schema, store, question)
            depth = plain.depth(strategy)
            if seen[min(3, depth)] < 80:
                self.assertTrue(plain.is_strategy(schema, store, question, strategy))
                self.assertIs(judge_strategy(schema, store, question, strategy), True)
                self.assertEqual(depth, plain.least_depth(schema, store, question))
                self.assertEqual(depth_of(strategy), depth)
            seen[min(3, depth)] += 1


class Depths(unittest.TestCase):
    def test_depths(self):
        one = ask(1, ((1, 2), YES), ((1, 3), NO))
        self.assertEqual([depth_of(strategy) for strategy in (YES, NO, one)], [0, 0, 1])
        self.assertIs(type(depth_of(one)), int)
        for branches, depth in [((YES, one), 2), ((one, YES), 2), ((YES, one, NO), 2), ((one, one), 2),
                                ((one, ask(7, ((7, 1), one))), 3), ((ask(7, ((7, 1), one), ((7, 2), NO)), one), 3)]:
            self.assertEqual(depth_of(ask(5, *[((5, at), branch) for at, branch in enumerate(branches)])), depth)

    def test_deep_strategies(self):
        strategy = YES
        for at in range(100):
            self.assertEqual(depth_of(strategy), at)
            strategy = ask(at, ((at, 0), strategy), ((at, 1), NO), ((at, 2), strategy))


class Judged(unittest.TestCase):
    STORE = store_of(*works((1, 2), (1, 3), (4, 2), (4, 5), (6, 2)), *opened(2, 3))

    def check(self, text, strategy, verdict, store=STORE):
        self.assertIs(judge_strategy(WORKS, store, read_question(WORKS, text), strategy), verdict)

    def test_what_is_told(self):
        for text, sure, never in [("[] works(x | y)", True, False), ("[] works(1 | 2)", False, False),
                                  ("[] works(1 | 2); [] works(1 | 3)", True, False), ("none 0", False, True),
                                  ("[]", True, False), ("[] works(x | 9)", False, True),
                                  ("[] works(x | 2)", True, False), ("[] works(1 | x), works(4 | x)", False, False),
                                  ("[] works(x | 3), works(x | 2)", False, True)]:
            self.check(text, YES, sure)
            self.check(text, NO, never)
        for text in ["[] works(x | y)", "[] open(x |)"]:
            self.check(text, YES, False, ())
            self.check(text, NO, True, ())
        self.check("[]", YES, True, ())
        self.check("[]", NO, False, ())

    def test_each_branch_must_tell_what_is_so(self):
        text = "[] works(1 | x), works(4 | x)"
        inner = ask(4, ((4, 2), YES), ((4, 5), NO))
        self.check(text, ask(1, ((1, 2), inner), ((1, 3), NO)), True)
        self.check(text, ask(4, ((4, 2), ask(1, ((1, 2), YES), ((1, 3), NO))), ((4, 5), NO)), True)
        self.check(text, ask(1, ((1, 2), inner), ((1, 3), YES)), False)
        self.check(text, ask(1, ((1, 2), YES), ((1, 3), NO)), False)
        self.check(text, ask(1, ((1, 2), NO), ((1, 3), NO)), False)
        self.check(text, ask(1, ((1, 2), ask(4, ((4, 2), NO), ((4, 5), NO))), ((1, 3), NO)), False)
        self.check(text, ask(1, ((1, 2), ask(4, ((4, 2), YES), ((4, 5), YES))), ((1, 3), NO)), False)

    def test_more_may_be_asked_than_must_be(self):
        inner = ask(4, ((4, 2), YES), ((4, 5), YES))
        self.check("[] works(x | 2)", inner, True)
        one = ask(1, ((1, 2), YES), ((1, 3), NO))
        self.check("[] works(1 | 2)", ask(4, ((4, 2), one), ((4, 5), one)), True)
        self.check("[] works(1 | 2)", ask(1, ((1, 2), inner), ((1, 3), NO)), True)
        self.check("[] works(1 | 2)", ask(1, ((1, 2), inner), ((1, 3), inner)), False)
        self.check("none 0", ask(1, ((1, 2), NO), ((1, 3), ask(4, ((4, 2), NO), ((4, 5), NO)))), True)

    def test_a_block_twice(self):
        inner = ask(1, ((1, 2), YES), ((1, 3), NO))
        self.check("[] works(1 | 2)", inner, True)
        self.check("[] works(1 | 2)", ask(1, ((1, 2), inner), ((1, 3), NO)), False)
        self.check("[] works(1 | 2)", ask(1, ((1, 2), YES), ((1, 3), inner)), False)
        self.check("[] works(1 | 2)", ask(1, ((1, 2), ask(4, ((4, 2), inner), ((4, 5), inner))), ((1, 3), NO)), False)
        sure = ask(1, ((1, 2), YES), ((1, 3), YES))
        self.check("[]", ask(4, ((4, 2), sure), ((4, 5), sure)), True)
        self.check("[]", ask(1, ((1, 2), YES), ((1, 3), sure)), False)
        self.check("[]", ask(4, ((4, 2), sure), ((4, 5), ask(1, ((1, 2), sure), ((1, 3), sure)))), False)

    def test_a_block_twice_in_parts_that_stand_elsewhere_too(self):
        store = store_of(*works(*[(at, value) for at in (1, 4, 6) for value in (2, 3)]))
        last = ask(6, ((6, 2), YES), ((6, 3), YES))
        both = ask(4, ((4, 2), last), ((4, 3), YES))
        self.check("[]", ask(1, ((1, 2), both), ((1, 3), both)), True, store)
        for more in [ask(6, ((6, 2), both), ((6, 3), YES)), ask(6, ((6, 2), YES), ((6, 3), both)),
                     ask(4, ((4, 2), both), ((4, 3), YES))]:
            self.check("[]", ask(1, ((1, 2), both), ((1, 3), more)), False, store)
            self.check("[]", ask(1, ((1, 2), more), ((1, 3), both)), False, store)

    def test_blocks_with_one_row_or_that_are_not_there(self):
        self.check("[] works(6 | 2)", YES, True)
        self.check("[] works(6 | 2)", ask(6, ((6, 2), YES)), False)
        self.check("[] works(6 | 2)", ask(7), False)
        self.check("[] works(6 | 2)", ask("a", (("a", 2), YES)), False)
        self.check("[] open(2 |)", ("ask", "open", (2,), (((2,), YES),)), False)
        self.check("[] open(2 |)", ("ask", "none", (2,), (((2,), YES),)), False)
        self.check("[] works(1 | 2)", ("ask", "works", (1, 2), (((1, 2), YES), ((1, 3), NO))), False)
        self.check("[] works(1 | 2)", ("ask", "works", (), (((1, 2), YES), ((1, 3), NO))), False)
        self.check("[] works(1 | 2)", ("ask", "open", (1,), (((1, 2), YES), ((1, 3), NO))), False)

    def test_rows_in_another_order_or_not_those_of_the_block(self):
        good = (((1, 2), YES), ((1, 3), NO))
        for branches in [good[::-1], good[:1], good[1:], good + good[1:], good[:1] + good, good + (((1, 4), NO),),
                         (((1, 2), YES), ((1, 4), NO)), (((4, 2), YES), ((4, 5), NO)), (), ((), ())]:
            self.check("[] works(1 | 2)", ask(1, *branches), False)
        self.check("[] works(1 | 2)", ask(1, *good), True)
        for one, other in [(0, 1), (1, 0)]:
            self.check("[]", ask(1, ((1, 2 + one), YES), ((1, 2 + other), YES)), one == 0)

    def test_every_small_change(self):
        for text in ["[] works(1 | x), works(4 | x)", "[] works(x | 3)", "[]", "none 0",
                     "[] works(1 | 2); [] works(4 | 5)"]:
            question = read_question(WORKS, text)
            strategy = best_strategy(WORKS, self.STORE, question)
            self.assertIs(judge_strategy(WORKS, self.STORE, question, strategy), True)
            for other in plain.changed(strategy):
                if isinstance(other, tuple):
                    self.assertIs(judge_strategy(WORKS, self.STORE, question, other),
                                  plain.is_strategy(WORKS, self.STORE, question, other), other)

    def test_tuples_that_are_no_strategies(self):
        schema = (("r", 1, 1),)
        store = store_of(("r", (1, 1)), ("r", (1, 2)))
        for at, other in enumerate(plain.no_tuples(10000)):
            for text in ["none 0", "[]", "[] r(x | 1)"]:
                verdict = other == YES and text == "[]"
                self.assertIs(judge_strategy(schema, store, read_question(schema, text), other), verdict, at)
        deep = ()
        for _ in range(10000):
            deep = (deep,)
        for other in [("tell",), ("tell", 1, 0), ("tell", 2), ("tell", -1), ("tell", "1"), ("tell", ()), ("tell", deep),
                      ("Tell", 1), (1, "tell"), ("ask", "r", (1,)), ("ask", "r", (1,), (), ()), ("ask", "r", 1, ()),
                      ("ask", deep, (1,), ()), ("ask", "r", deep, ()), ("ask", "r", (deep,), ()),
                      ("ask", "r", (1,), deep),
                      ("ask", "r", (1,), (deep, deep)), ("ask", "r", (1,), (((1, 1), deep), ((1, 2), NO))),
                      ("ask", "r", (1,), (((1, 1), YES), ((1, 2), deep))),
                      ("ask", "r", (1,), ((deep, YES), (deep, NO))),
                      ("ask", "r", (1,), (((1, 1), YES, YES), ((1, 2), NO))), ("ask", "r", (1,), 2),
                      ("ask", "r", (1,), (((1, 1), 1), ((1, 2), 0))),
                      ("split", "r", (1,), (((1, 1), YES), ((1, 2), NO)))]:
            self.assertIs(judge_strategy(schema, store, read_question(schema, "[] r(x | 1)"), other), False)

    def test_made_up_cases(self):
        chances = Chances(25)
        told = {True: 0, False: 0}
        while told[True] < 90:
            schema = chances.schema(FORMS, 3)
            store = chances.store(schema, 2 + chances.below(8), [1, 2])
            question = closed(*[chances.body(schema, chances.below(3), ["x", "y", "z"], [1, 2])
                                for _ in range(chances.below(4))])
            strategy = best_strategy(schema, store, question)
            for other in plain.changed(strategy):
                if isinstance(other, tuple) and not chances.below(12):
                    right = plain.is_strategy(schema, store, question, other)
                    self.assertIs(judge_strategy(schema, store, question, other), right)
                    told[right] += 1
            told[True] += depth_of(strategy) > 0
        self.assertGreater(told[False], 100)


class VeryManyMendings(unittest.TestCase):
    def test_strategies_with_very_many_equal_branches(self):
        store = store_of(*works(*[(at, at % 5 + more) for at in range(50) for more in (0, 1, 2, 3)]))
        question = read_question(WORKS, "[] works(x | 2); [] works(x | 4)")
        self.assertEqual(count_mendings(WORKS, store), 4**50)
        strategy = best_strategy(WORKS, store, question)
        self.assertEqual(depth_of(strategy), 50)
        self.assertIs(judge_strategy(WORKS, store, question, strategy), True)
        self.assertIs(judge_strategy(WORKS, store, read_question(WORKS, "[] works(x | 2)"), strategy), False)
        last = ask(50, ((50, 2), YES), ((50, 3), NO))
        self.assertIs(judge_strategy(WORKS, store_of(*store, *works((50, 2), (50, 3))), question, strategy), False)
        self.assertIs(judge_strategy(WORKS, store_of(*store, *works((50, 2), (50, 3))),
                                     read_question(WORKS, "[] works(50 | 2)"), last), True)

    def test_long_chains(self):
        store = store_of(*works(*[(at, value) for at in range(99) for value in (0, 1)]))
        question = read_question(WORKS, "[] works(x | 0)")
        for end, verdict in [(NO, True), (YES, False), ((), False)]:
            strategy = end
            for at in range(99):
                strategy = ask(at, ((at, 0), YES), ((at, 1), strategy))
            self.assertIs(judge_strategy(WORKS, store, question, strategy), verdict)
        self.assertEqual(depth_of(best_strategy(WORKS, store, question)), 99)


if __name__ == "__main__":
    unittest.main()

import inspect
import unittest

import plain
from everymending import counting
from everymending.counting import bearing_at, count_bearing
from everymending.mendings import count_mendings, mending_at
from everymending.questions import check_question
from everymending.trees import decide
from plain import Chances, atom, closed, store_of, val, var

X, Y, Z = var("x"), var("y"), var("z")
WORKS = (("open", 1, 0), ("works", 1, 1))
CHAIN = (("r", 1, 1), ("s", 1, 1), ("t", 1, 0))
FORMS = [(0, 0), (0, 1), (0, 2), (1, 0), (1, 1), (1, 1), (1, 2), (2, 0), (2, 1)]


class Interface(unittest.TestCase):
    def test_functions_and_their_arguments(self):
        told = {"count_bearing": ["schema", "store", "question"],
                "bearing_at": ["schema", "store", "question", "n"]}
        for name, arguments in told.items():
            function = getattr(counting, name)
            self.assertEqual(function.__module__, "everymending.counting")
            self.assertEqual(list(inspect.signature(function).parameters), arguments)


class Bearing(unittest.TestCase):
    def check(self, schema, store, question):
        """Compares with a look at all mendings, and returns the number of those that bear."""
        check_question(schema, question)
        bearing = plain.bearing(schema, store, question)
        many = count_bearing(schema, store, question)
        self.assertIs(type(many), int)
        self.assertEqual(many, len(bearing))
        for n in range(len(bearing)):
            self.assertEqual(bearing_at(schema, store, question, n), bearing[n])
        for n in [-1, -2, -10**30, -len(bearing), len(bearing), len(bearing) + 1, 10**30]:
            if not 0 <= n < len(bearing):
                self.assertIsNone(bearing_at(schema, store, question, n))
        return many

    def test_questions_without_joins(self):
        for store in [(), store_of(("works", (1, 2)), ("works", (1, 3)))]:
            self.assertEqual(self.check(WORKS, store, closed()), 0)

    def test_joins_without_atoms(self):
        self.assertEqual(self.check(WORKS, (), closed([])), 1)
        self.assertEqual(bearing_at(WORKS, (), closed([]), 0), ())
        store = store_of(("open", (1,)), *[("works", (at, value)) for at in (1, 2) for value in (1, 2, 3)])
        self.assertEqual(self.check(WORKS, store, closed([])), 9)
        self.assertEqual(self.check(WORKS, store, closed([atom("open", val(7))], [])), 9)

    def test_the_empty_store(self):
        self.assertEqual(self.check(WORKS, (), closed([atom("open", X)])), 0)
        self.assertEqual(self.check((), (), closed()), 0)
        self.assertEqual(self.check((), (), closed([])), 1)

    def test_one_block(self):
        store = store_of(("works", (1, 1)), ("works", (1, 2)), ("works", (1, "a")), ("works", (1, "b")))
        for bodies, many in [([[atom("works", X, Y)]], 4), ([[atom("works", X, X)]], 1),
                             ([[atom("works", X, val("a"))]], 1), ([[atom("works", X, val(3))]], 0),
                             ([[atom("works", X, val(2))], [atom("works", X, val("b"))]], 2),
                             ([[atom("works", X, val(2)), atom("works", X, val("b"))]], 0)]:
            self.assertEqual(self.check(WORKS, store, closed(*bodies)), many)

    def test_several_blocks(self):
        store = store_of(*[("works", (at, value)) for at in (1, 2, 3) for value in (1, 2)], ("open", (2,)))
        self.assertEqual(self.check(WORKS, store, closed([atom("works", X, Y), atom("open", Y)])), 7)
        self.assertEqual(self.check(WORKS, store, closed([atom("works", X, val(1))])), 7)
        self.assertEqual(self.check(WORKS, store, closed([atom("works", val(1), X), atom("works", val(2), X)])), 4)

    def test_joins_that_are_sure_together_but_not_one_by_one(self):
        store = store_of(("works", (1, 2)), ("works", (1, 3)), ("works", (4, 4)), ("works", (4, 5)))
        self.assertEqual(self.check(WORKS, store, closed([atom("works", X, val(2))], [atom("works", X, val(3))])), 4)
        self.assertEqual(self.check(WORKS, store, closed([atom("works", X, val(2))], [atom("works", X, val(4))])), 3)

    def test_joins_in_which_a_table_stands_twice(self):
        store = store_of(*[("works", (at, other)) for at in (1, 2, 3) for other in (1, 2, 3)])
        self.check(WORKS, store, closed([atom("works", X, Y), atom("works", Y, X)]))
        self.check(WORKS, store, closed([atom("works", X, Y), atom("works", Y, Z), atom("works", Z, X)]))
        self.check(WORKS, store, closed([atom("works", X, Z), atom("works", Y, Z), atom("works", Z, X)]))

    def test_blocks_of_tables_that_no_atom_names(self):
        schema = (("a", 1, 1), ("m", 1, 1), ("z", 1, 1))
        store = store_of(*[("a", (at, value)) for at in (1, 2) for value in (1, 2, 3)], ("m", (1, 1)), ("m", (1, 2)),
                         ("m", (1, 3)), *[("z", (1, value)) for value in (1, 2)])
        self.assertEqual(self.check(schema, store, closed([atom("m", X, val(2))], [atom("m", X, val(3))])), 36)

    def test_all_mendings_but_one_and_only_one(self):
        schema = (("a", 1, 1), ("b", 0, 2), ("c", 1, 1))
        store = store_of(*[(name, (1, value)) for name in "abc" for value in (1, 2)], ("c", (2, 1)), ("c", (2, 2)))
        for one in plain.mendings(schema, store):
            bodies = [[atom(name, *[val(value) for value in row])] for name, row in store if (name, row) not in one]
            self.assertEqual(self.check(schema, store, closed(*bodies)), 15)
            whole = [atom(name, *[val(value) for value in row]) for name, row in one]
            self.assertEqual(self.check(schema, store, closed(whole)), 1)
            self.assertEqual(bearing_at(schema, store, closed(whole), 0), one)

    def test_made_up_cases(self):
        chances = Chances(16)
        seen = {"none": 0, "some": 0, "all": 0}
        while min(seen.values()) < 60:
            schema = chances.schema(FORMS, 4)
            values = chances.pick([[1, 2], [1, 2, "a"]])
            store = chances.store(schema, chances.below(16), values)
            whole = plain.number_of_mendings(schema, store)
            if whole > 100:
                continue
            question = closed(*[chances.body(schema, 1 + chances.below(3), ["x", "y", "z"], values)
                                for _ in range(chances.below(5))])
            many = self.check(schema, store, question)
            self.assertEqual(many == whole, decide(schema, store, question)[0] == "sure")
            seen["none" if many == 0 else "all" if many == whole else "some"] += 1


class VeryManyMendings(unittest.TestCase):
    # Here the number is plain though the mendings cannot be looked at one by one.
    def test_one_of_many_blocks_is_enough(self):
        store = store_of(*[("works", (at, value)) for at in range(60) for value in (0, 1, 2)])
        question = closed([atom("works", X, val(1))])
        self.assertEqual(count_bearing(WORKS, store, question), 3**60 - 2**60)
        self.assertEqual(bearing_at(WORKS, store, question, 0), mending_at(WORKS, store, 1))
        self.assertEqual(bearing_at(WORKS, store, question, 1), mending_at(WORKS, store, 3))
        self.assertEqual(bearing_at(WORKS, store, question, 3**60 - 2**60 - 1),
                         mending_at(WORKS, store, 3**60 - 2))
        self.assertIsNone(bearing_at(WORKS, store, question, 3**60 - 2**60))
        self.assertIsNone(bearing_at(WORKS, store, question, -1))

    def test_blocks_that_no_atom_names_or_needs(self):
        store = store_of(*[("r", (at, value)) for at in range(40) for value in (0, 1)], ("s", (1, 1)), ("s", (1, 2)),
                         ("s", (1, 3)), ("t", (2,)))
        question = closed([atom("s", X, Y), atom("t", Y)])
        self.assertEqual(count_mendings(CHAIN, store), 3 * 2**40)
        self.assertEqual(count_bearing(CHAIN, store, question), 2**40)
        self.assertEqual(bearing_at(CHAIN, store, question, 5), mending_at(CHAIN, store, 16))
        self.assertEqual(count_bearing(CHAIN, store, closed()), 0)
        self.assertEqual(count_bearing(CHAIN, store, closed([])), 3 * 2**40)
        self.assertEqual(bearing_at(CHAIN, store, closed([]), 2**40), mending_at(CHAIN, store, 2**40))
        self.assertEqual(count_bearing(CHAIN, store, closed([atom("r", val(3), val(1)), atom("t", Y)])), 3 * 2**39)


if __name__ == "__main__":
    unittest.main()

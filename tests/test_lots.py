import inspect
import unittest

import plain
from everymending import lots
from everymending.lots import smallest_lots
from everymending.mendings import count_mendings
from everymending.questions import check_question
from everymending.reading import read_question
from plain import Chances, closed, store_of

GREAT = 10**60 - 1
WORKS = (("open", 1, 0), ("works", 1, 1))
FORMS = [(0, 0), (0, 1), (0, 2), (1, 0), (1, 1), (1, 1), (1, 2), (2, 0), (2, 1)]


def works(*rows):
    return [("works", row) for row in rows]


def opened(*values):
    return [("open", (value,)) for value in values]


class Interface(unittest.TestCase):
    def test_functions_and_their_arguments(self):
        self.assertEqual(smallest_lots.__module__, "everymending.lots")
        self.assertEqual(list(inspect.signature(lots.smallest_lots).parameters), ["schema", "store", "question"])

    def test_kinds_of_what_is_returned(self):
        found = smallest_lots(WORKS, store_of(*works((1, 2), (1, 3))), read_question(WORKS, "[] works(x | 2)"))
        self.assertEqual(found, ((("works", (1, 2)),),))
        self.assertEqual([type(part) for part in (found, found[0], found[0][0], found[0][0][1])], [tuple] * 4)


class SmallestLots(unittest.TestCase):
    def check(self, text, store, *found):
        """Lots of rows of `works` are told by their rows alone."""
        told = tuple([tuple([("works", row) for row in rows]) for rows in found])
        self.assertEqual(smallest_lots(WORKS, store, read_question(WORKS, text)), told)

    def test_the_empty_store(self):
        self.check("[] works(x | y)", ())
        self.check("[] open(1 |); [] works(x | y), open(x |)", ())
        self.check("[]", (), ())

    def test_questions_without_joins(self):
        self.check("none 0", ())
        self.check("none 0", store_of(*works((1, 2), (1, 3))))

    def test_joins_without_atoms(self):
        store = store_of(*works((1, 2), (1, 3)))
        self.check("[]", store, ())
        self.check("[] works(x | 2); []", store, ())

    def test_clean_stores(self):
        store = store_of(*works((1, 2), (2, 3)), *opened(2))
        self.check("[] works(x | y), open(y |)", store, ())
        self.check("[] works(x | y), open(x |)", store, ())
        self.check("[] works(x | 9)", store)

    def test_facts_without_rivals_stand_in_no_lot(self):
        store = store_of(*works((1, 2), (1, 3), (4, 2)), *opened(2, 3))
        self.check("[] works(1 | y), open(y |)", store, [(1, 2)], [(1, 3)])
        self.check("[] works(1 | y), works(x | y), open(y |), works(4 | z)", store, [(1, 2)], [(1, 3)])
        self.check("[] works(x | y), open(y |)", store, ())

    def test_lots_that_have_all_facts_of_another_lot(self):
        store = store_of(*works((1, 2), (1, 3), (4, 2), (4, 3), (5, 1), (5, 6)))
        self.check("[] works(1 | 2), works(4 | 3)", store, [(1, 2), (4, 3)])
        self.check("[] works(1 | 2), works(4 | 3); [] works(4 | 3)", store, [(4, 3)])
        self.check("[] works(4 | 3); [] works(1 | 2), works(4 | 3)", store, [(4, 3)])
        self.check("[] works(1 | 2), works(4 | x), works(5 | 6); [] works(4 | 3), works(5 | y); [] works(5 | 6)", store,
                   [(4, 3), (5, 1)], [(5, 6)])
        self.check("[] works(x | y), works(x | z), works(u | z)", store, *[[row] for _, row in store])

    def test_equal_lots_of_several_valuations_and_joins(self):
        store = store_of(*works((1, 2), (1, 3)), *opened(1, 2, 3))
        self.check("[] works(x | 2), open(y |)", store, [(1, 2)])
        self.check("[] works(x | 2), open(x |); [] works(1 | y), open(y |), works(x | 2)", store, [(1, 2)])

    def test_rivals_stand_in_no_lot_together(self):
        store = store_of(*works((1, 2), (1, 3), (4, 2), (4, 3)))
        self.check("[] works(x | 2), works(x | 3)", store)
        self.check("[] works(x | 2), works(y | 3)", store, [(1, 2), (4, 3)], [(1, 3), (4, 2)])
        self.check("[] works(x | 2), works(y | 3), works(z | 2)", store, [(1, 2), (4, 3)], [(1, 3), (4, 2)])
        self.check("[] works(x | y), works(y | z)", store_of(*works((1, 1), (1, 3), (3, 1), (3, 3))),
                   [(1, 1)], [(1, 3), (3, 1)], [(3, 3)])

    def test_all_rows_of_a_block_are_no_shorter_lot(self):
        store = store_of(*works((1, 2), (1, 3), (4, 5), (4, 6)))
        self.check("[] works(1 | x)", store, [(1, 2)], [(1, 3)])
        self.check("[] works(1 | x), works(4 | 5)", store, [(1, 2), (4, 5)], [(1, 3), (4, 5)])

    def test_tables_without_key_columns_and_without_other_columns(self):
        schema = (("best", 0, 1), ("rain", 0, 0), ("seen", 2, 0))
        store = store_of(("best", (5,)), ("best", ("a",)), ("rain", ()), ("seen", (1, 5)), ("seen", (2, 5)))
        for text, found in [("[] best(| x)", ((("best", (5,)),), (("best", ("a",)),))), ("[] rain(|)", ((),)),
                            ("[] best(| x), seen(y, x |), rain(|)", ((("best", (5,)),),)),
                            ("[] best(| x), best(| 5)", ((("best", (5,)),),)),
                            ("[] seen(x, y |), seen(y, x |)", ())]:
            self.assertEqual(smallest_lots(schema, store, read_question(schema, text)), found)

    def test_the_order_of_lots(self):
        schema = (("a", 0, 1), ("b", 1, 1), ("c", 0, 1))
        facts = [("a", (1,)), ("a", ("z",)), ("b", (GREAT, 1)), ("b", (GREAT, 9)), ("b", (GREAT, 10)),
                 ("b", ("a", "aa")), ("b", ("a", "b")), ("c", (0,)), ("c", (1,))]
        self.assertEqual(store_of(*facts), tuple(facts))
        text = ("[] c(| x), a(| 1); [] b(\"a\" | \"b\"); [] a(| \"z\"), b(x | 10); [] b(\"a\" | \"aa\"), a(| 1); "
                "[] b(x | 9), c(| 1), a(| y); [] b(x | 1)")
        lots_by_index = [(0, 5), (0, 7), (0, 8), (1, 3, 8), (1, 4), (2,), (6,)]
        self.assertEqual(smallest_lots(schema, tuple(facts), read_question(schema, text)),
                         tuple([tuple([facts[at] for at in lot]) for lot in lots_by_index]))

    def test_made_up_cases(self):
        chances = Chances(23)
        seen = [0, 0, 0, 0, 0]
        while min(seen) < 40:
            schema = chances.schema(FORMS, 4)
            values = chances.pick([[1, 2], [1, 2, "a"], [1, 2, 3]])
            store = chances.store(schema, chances.below(16), values)
            if plain.number_of_mendings(schema, store) > 100:
                continue
            question = closed(*[chances.body(schema, chances.below(5), ["x", "y", "z", "u"], values)
                                for _ in range(chances.below(4))])
            check_question(schema, question)
            found = smallest_lots(schema, store, question)
            self.assertEqual(found, plain.lots(schema, store, question))
            for mending in plain.mendings(schema, store):
                self.assertEqual(any(set(lot) <= set(mending) for lot in found), plain.holds(mending, question))
            seen[min(4, len(found))] += 1

    def test_stores_with_very_many_mendings(self):
        store = store_of(*works(*[(at, value) for at in range(60) for value in (0, 1, 2)]), *opened(0, 2))
        self.assertEqual(count_mendings(WORKS, store), 3**60)
        self.check("[] works(x | y), open(y |)", store, *[[(at, value)] for at in range(60) for value in (0, 2)])
        self.check("[] works(x | 1), works(y | 2), works(3 | 0), works(x | u), works(y | v), works(z | 1), "
                   "works(59 | 1)", store, *[[(at, 2), (3, 0), (59, 1)] for at in (0, 1, 2)],
                   *[[(3, 0), (at, 2), (59, 1)] for at in range(4, 59)])
        self.check("[] works(x | y), works(z | u), works(v | w), works(a | b), works(c | d), works(e | f), "
                   "works(g | h)", store, *[[row] for name, row in store if name == "works"])

    def test_atoms_that_facts_without_rivals_become_in_very_many_ways(self):
        schema = tuple([(name, 1, 0) for name in "abcdefg"]) + (("works", 1, 1),)
        store = store_of(*[(name, (at,)) for name in "abcdefg" for at in range(27)], *works((1, 2), (1, 3)))
        text = "[] " + ", ".join([f"{name}({name} |)" for name in "abcdefg"])
        self.assertEqual(smallest_lots(schema, store, read_question(schema, text)), ((),))
        self.assertEqual(smallest_lots(schema, store, read_question(schema, text + ", works(x | 3)")),
                         ((("works", (1, 3)),),))


if __name__ == "__main__":
    unittest.main()

import inspect
import unittest

import plain
from everymending import sure
from everymending.mendings import count_mendings
from everymending.questions import check_question
from everymending.reading import read_book, read_question
from everymending.sure import possible_rows, share_of, sure_rows
from plain import Chances, atom, closed, join, store_of, val, var

GREAT = 10**60 - 1
X, Y, Z = var("x"), var("y"), var("z")
WORKS = (("open", 1, 0), ("works", 1, 1))
FORMS = [(0, 0), (0, 1), (0, 2), (1, 0), (1, 1), (1, 1), (1, 2), (2, 0), (2, 1)]


def works(*rows):
    return [("works", row) for row in rows]


def opened(*values):
    return [("open", (value,)) for value in values]


class Interface(unittest.TestCase):
    def test_functions_and_their_arguments(self):
        told = {"possible_rows": ["schema", "store", "question"], "sure_rows": ["schema", "store", "question"],
                "share_of": ["schema", "store", "question", "row"]}
        for name, arguments in told.items():
            function = getattr(sure, name)
            self.assertEqual(function.__module__, "everymending.sure")
            self.assertEqual(list(inspect.signature(function).parameters), arguments)

    def test_kinds_of_what_is_returned(self):
        question = read_question(WORKS, "[x] works(x | y)")
        for function in (possible_rows, sure_rows):
            for store in [(), store_of(*works((1, 2)))]:
                found = function(WORKS, store, question)
                self.assertEqual([type(part) for part in (found, *found)], [tuple] * (1 + len(store)))
        found = share_of(WORKS, store_of(*works((1, 2), (1, 3))), question, (1,))
        self.assertEqual([type(part) for part in (found, *found)], [tuple, int, int])


class Examples(unittest.TestCase):
    def test_both_shops_are_open(self):
        found = read_book('table open 1 0\ntable works 1 1\nopen("bar" |)\nopen("shop" |)\nworks("ann" | "bar")\n'
                          'works("ann" | "shop")')
        schema = found[0]
        store = found[1]
        self.assertEqual(sure_rows(schema, store, read_question(schema, '[x] works(x | y), open(y |)')), (('ann',),))

    def test_one_shop_is_open(self):
        found = read_book('table open 1 0\ntable works 1 1\nopen("bar" |)\nworks("ann" | "bar")\nworks("ann" | "shop")')
        schema = found[0]
        store = found[1]
        question = read_question(schema, '[x] works(x | y), open(y |)')
        self.assertEqual((sure_rows(schema, store, question), possible_rows(schema, store, question),
                          share_of(schema, store, question, ("ann",))), ((), (('ann',),), (1, 2)))


class Rows(unittest.TestCase):
    def check(self, text, store, possible, certain):
        """Also compares the shares of the possible rows with what was found."""
        question = read_question(WORKS, text)
        self.assertEqual(possible_rows(WORKS, store, question), tuple(possible))
        self.assertEqual(sure_rows(WORKS, store, question), tuple(certain))
        for row in possible:
            bearing, whole = share_of(WORKS, store, question, row)
            self.assertEqual(whole, count_mendings(WORKS, store))
            self.assertTrue(0 < bearing <= whole)
            self.assertEqual(bearing == whole, row in certain)

    def test_the_empty_store(self):
        self.check("[x] works(x | y)", (), [], [])
        self.check("[x, y] works(x | y), open(y |); [x, x] open(x |)", (), [], [])
        self.check("[]", (), [()], [()])
        self.check("[1, \"a\"]", (), [(1, "a")], [(1, "a")])

    def test_questions_without_joins(self):
        for store in [(), store_of(*works((1, 2), (1, 3)))]:
            for width in range(9):
                self.check(f"none {width}", store, [], [])
                self.assertEqual(share_of(WORKS, store, (width, ()), (1,) * width), (0, max(1, len(store))))

    def test_joins_without_atoms(self):
        store = store_of(*works((1, 2), (1, 3)))
        self.check("[]", store, [()], [()])
        self.check('[7]; ["a"]; [7]', store, [(7,), ("a",)], [(7,), ("a",)])
        self.check('["b", 0]; ["a", 0]; [-1, 0]', store, [(-1, 0), ("a", 0), ("b", 0)], [(-1, 0), ("a", 0), ("b", 0)])

    def test_widths_from_0_to_8(self):
        store = store_of(*works((1, 2), (1, 3), (4, 5)))
        for width in range(9):
            head = ", ".join(["x", "y"] * 4)[:max(0, 3 * width - 2)]
            rows = [tuple([row[at % 2] for at in range(width)]) for row in [(1, 2), (1, 3), (4, 5)]]
            several = {0: [()], 1: [(1,), (4,)]}
            self.check(f"[{head}] works(x | y)", store, several.get(width, rows), several.get(width, rows[2:]))

    def test_clean_stores(self):
        store = store_of(*works((1, 2), (2, 2), (3, "a")), *opened(2, "a"))
        self.check("[y, x] works(x | y), open(y |)", store, [(2, 1), (2, 2), ("a", 3)], [(2, 1), (2, 2), ("a", 3)])

    def test_values_that_all_rows_of_a_block_have(self):
        schema = (("works", 1, 2),)
        store = store_of(*[("works", row) for row in [(1, 2, 3), (1, 2, 4), (5, 3, 3), (5, 4, 3)]])
        question = (2, (join([Y, Z], atom("works", X, Y, Z)),))
        self.assertEqual(possible_rows(schema, store, question), ((2, 3), (2, 4), (3, 3), (4, 3)))
        self.assertEqual(sure_rows(schema, store, question), ())
        question = (1, (join([Y], atom("works", X, Y, Z)), join([Z], atom("works", X, Y, Z))))
        self.assertEqual(possible_rows(schema, store, question), ((2,), (3,), (4,)))
        self.assertEqual(sure_rows(schema, store, question), ((2,), (3,)))

    def test_rows_that_are_sure_by_several_joins_together(self):
        store = store_of(*works((1, 2), (1, 3), (4, 2), (4, 5)))
        self.check("[x] works(x | 2)", store, [(1,), (4,)], [])
        self.check("[x] works(x | 2); [x] works(x | 3)", store, [(1,), (4,)], [(1,)])
        self.check("[x] works(x | 2); [1] works(x | 5)", store, [(1,), (4,)], [])
        self.check("[x] works(x | 2); [1] works(x | 5); [1] works(1 | 3), works(4 | 2)", store, [(1,), (4,)], [(1,)])
        self.check("[] works(1 | 2), works(4 | 2); [] works(x | 3); [] works(x | 5)", store, [()], [()])

    def test_rows_that_are_sure_by_several_blocks_together(self):
        store = store_of(*works((1, 2), (1, 3), (2, 2), (2, 4), (3, 3), (3, 4)), *opened(2))
        self.check("[y] works(x | y)", store, [(2,), (3,), (4,)], [])
        self.check("[9] works(x | y), works(y | z); [9] works(3 | 4)", store, [(9,)], [(9,)])

    def test_facts_that_are_rivals_answer_in_no_mending_together(self):
        store = store_of(*works((1, 2), (1, 3), (2, 2)))
        self.check("[x] works(x | 2), works(x | 3)", store, [], [])
        self.check("[x] works(x | 2), works(x | y), works(x | z)", store, [(1,), (2,)], [(2,)])
        self.check("[x, y] works(1 | x), works(1 | y)", store, [(2, 2), (3, 3)], [])
        self.check("[x, y, z] works(1 | x), works(2 | y), works(1 | z)", store, [(2, 2, 2), (3, 2, 3)], [])
        twice = store_of(*works((1, 2), (1, 3), (4, 2), (4, 3)))
        self.check("[7] works(x | 2), works(x | 3)", twice, [], [])
        self.check("[7] works(x | 2), works(x | y); [8] works(x | 2), works(y | 3)", twice, [(7,), (8,)], [])
        self.check("[y] works(x | y), works(x | z), works(z | y)",
                   store_of(*works((1, 2), (1, 3), (2, 3), (3, 2), (3, 3))), [(3,)], [])
        ring = store_of(*works((1, 2), (1, 3), (2, 1), (2, 3), (3, 1), (3, 2)))
        self.check("[x, y] works(x | y), works(y | x), works(x | z), works(z | x)", ring,
                   [(1, 2), (1, 3), (2, 1), (2, 3), (3, 1), (3, 2)], [])
        self.check("[] works(x | y), works(y | x), works(1 | 3), works(2 | 3)", ring, [()], [])
        self.check("[] works(1 | x), works(2 | x), works(3 | x)", ring, [], [])

    def test_tables_without_key_columns_and_without_other_columns(self):
        schema = (("best", 0, 1), ("rain", 0, 0), ("seen", 2, 0))
        store = store_of(("best", (5,)), ("best", ("a",)), ("rain", ()), ("seen", (1, 2)), ("seen", (1, 5)))
        for body, possible, certain in [([atom("best", X)], ((5,), ("a",)), ()),
                                        ([atom("best", X), atom("rain")], ((5,), ("a",)), ()),
                                        ([atom("seen", val(1), X)], ((2,), (5,)), ((2,), (5,))),
                                        ([atom("seen", Y, X), atom("best", X)], ((5,),), ()),
                                        ([atom("best", X), atom("best", Y), atom("seen", Z, Y)], ((5,),), ())]:
            question = (1, (join([X], *body),))
            self.assertEqual(possible_rows(schema, store, question), possible)
            self.assertEqual(sure_rows(schema, store, question), certain)
        self.assertEqual(sure_rows(schema, store, closed([atom("rain")])), ((),))
        self.assertEqual(sure_rows(schema, store, closed([atom("best", val(5))], [atom("best", val("a"))])), ((),))

    def test_the_order_of_rows(self):
        values = (GREAT, "b", "ab", "a", -GREAT, 0, 10, 9, -1, "aa")
        store = store_of(*opened(*values))
        rows = [(value,) for value in (-GREAT, -1, 0, 9, 10, GREAT, "a", "aa", "ab", "b")]
        self.check("[x] open(x |)", store, rows, rows)
        more = rows[:3] + [(3,)] + rows[3:8] + [("aaa",)] + rows[8:]
        self.check('[x] open(x |), open("b" |); ["aaa"]; [3]', store, more, more)

    def test_heads_with_values_and_variables_that_stand_twice(self):
        store = store_of(*works((1, 1), (1, 2), (2, 2)))
        self.check("[x, 7, x] works(x | x)", store, [(1, 7, 1), (2, 7, 2)], [(2, 7, 2)])
        rows = [(1, 1), (1, 2), (2, 2)]
        self.check("[x, x] works(x | y); [1, y] works(x | y)", store, rows, rows)

    def test_made_up_cases(self):
        chances = Chances(21)
        seen = {"sure": 0, "possible only": 0, "several joins": 0}
        while min(seen.values()) < 150:
            schema = chances.schema(FORMS, 4)
            values = chances.pick([[1, 2], [1, 2, "a"], [-3, 5, "a", "b"]])
            store = chances.store(schema, chances.below(14), values)
            if plain.number_of_mendings(schema, store) > 100:
                continue
            question = chances.question(schema, chances.below(4), ["x", "y", "z"], values)
            check_question(schema, question)
            mendings = plain.mendings(schema, store)
            possible = possible_rows(schema, store, question)
            certain = sure_rows(schema, store, question)
            self.assertEqual(possible, plain.possible(schema, store, question))
            self.assertEqual(certain, plain.sure(schema, store, question))
            seen["sure"] += certain != ()
            seen["possible only"] += possible != certain
            seen["several joins"] += certain != () and len(question[1]) > 1
            for row in (*possible[:3], tuple([chances.pick(values) for _ in range(question[0])])):
                answered = [row in plain.answers(mending, question) for mending in mendings]
                self.assertEqual(share_of(schema, store, question, row), (sum(answered), len(mendings)))


class Shares(unittest.TestCase):
    def test_shares(self):
        store = store_of(*works((1, 2), (1, 3), (1, 4), (5, 2), (5, 6)), *opened(2, 3, 6))
        question = read_question(WORKS, "[x] works(x | y), open(y |); [y] works(5 | y); [4] works(x | 4), works(5 | 6)")
        for value, bearing in [(1, 4), (2, 3), (3, 0), (4, 1), (5, 6), (6, 3), ("a", 0), (GREAT, 0)]:
            self.assertEqual(share_of(WORKS, store, question, (value,)), (bearing, 6))

    def test_the_empty_store(self):
        self.assertEqual(share_of(WORKS, (), read_question(WORKS, "[x] open(x |)"), (1,)), (0, 1))
        self.assertEqual(share_of(WORKS, (), read_question(WORKS, "[1]"), (1,)), (1, 1))
        self.assertEqual(share_of(WORKS, (), read_question(WORKS, "[1]"), (2,)), (0, 1))
        self.assertEqual(share_of(WORKS, (), closed([]), ()), (1, 1))

    def test_pairs_are_not_reduced(self):
        store = store_of(*works((1, 2), (1, 3), (2, 2), (2, 3)))
        self.assertEqual(share_of(WORKS, store, read_question(WORKS, "[x] works(x | 2)"), (1,)), (2, 4))
        self.assertEqual(share_of(WORKS, store, read_question(WORKS, "[x] works(x | y)"), (1,)), (4, 4))

    def test_stores_with_very_many_mendings(self):
        store = store_of(*works(*[(at, value) for at in range(60) for value in (0, 1, 2)]))
        self.assertEqual(share_of(WORKS, store, read_question(WORKS, "[y] works(x | y)"), (1,)), (3**60 - 2**60, 3**60))
        self.assertEqual(share_of(WORKS, store, read_question(WORKS, "[x] works(x | 1)"), (7,)), (3**59, 3**60))


class VeryManyMendings(unittest.TestCase):
    def test_rows(self):
        store = store_of(*works(*[(at, at % 5 + more) for at in range(60) for more in (0, 1, 2)]), *opened(2, 3, 4))
        question = read_question(WORKS, "[x] works(x | y), open(y |)")
        self.assertEqual(sure_rows(WORKS, store, question), tuple([(at,) for at in range(60) if at % 5 == 2]))
        self.assertEqual(possible_rows(WORKS, store, question), tuple([(at,) for at in range(60)]))

    def test_joins_in_which_a_table_stands_twice(self):
        store = store_of(*works(*[(at, (at + more) % 50) for at in range(50) for more in (0, 1, 49)]))
        question = read_question(WORKS, "[x, y] works(x | y), works(y | x)")
        self.assertEqual(len(possible_rows(WORKS, store, question)), 150)
        self.assertEqual(sure_rows(WORKS, store, question), ())


class Arguments(unittest.TestCase):
    def test_what_is_returned_is_not_changed_by_later_calls(self):
        store = store_of(*works((1, 2), (1, 3)), *opened(2))
        question = read_question(WORKS, "[x] works(x | y)")
        before = (possible_rows(WORKS, store, question), sure_rows(WORKS, store, question))
        self.assertEqual(store, store_of(*works((1, 2), (1, 3)), *opened(2)))
        self.assertEqual(before, (possible_rows(WORKS, store, question), sure_rows(WORKS, store, question)))


if __name__ == "__main__":
    unittest.main()

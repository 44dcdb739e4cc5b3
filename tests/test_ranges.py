import inspect
import unittest

import plain
from everymending import ranges
from everymending.mendings import count_mendings, is_mending
from everymending.plainly import answers
from everymending.questions import check_question
from everymending.ranges import range_of, range_of_sums
from everymending.reading import read_question
from plain import Chances, store_of

GREAT = 10**60 - 1
WORKS = (("open", 1, 0), ("works", 1, 1))
FORMS = [(0, 0), (0, 1), (0, 2), (1, 0), (1, 1), (1, 1), (1, 2), (2, 0), (2, 1)]


def works(*rows):
    return [("works", row) for row in rows]


def opened(*values):
    return [("open", (value,)) for value in values]


class Checked(unittest.TestCase):
    def check(self, schema, store, question, column=None):
        """Checks the mendings of a range, and returns the least and the greatest."""
        if column is None:
            found = range_of(schema, store, question)
        else:
            found = range_of_sums(schema, store, question, column)
        self.assertEqual([type(part) for part in (found, *found)], [tuple, int, tuple, int, tuple])
        for number, mending in (found[:2], found[2:]):
            self.assertTrue(is_mending(schema, store, mending))
            rows = answers(mending, question)
            self.assertEqual(number, len(rows) if column is None else plain.sum_of(rows, column))
        return (found[0], found[2])

    def range(self, text, store):
        return self.check(WORKS, store, read_question(WORKS, text))

    def sums(self, text, store, column):
        return self.check(WORKS, store, read_question(WORKS, text), column)


class Interface(unittest.TestCase):
    def test_functions_and_their_arguments(self):
        told = {"range_of": ["schema", "store", "question"],
                "range_of_sums": ["schema", "store", "question", "column"]}
        for name, arguments in told.items():
            function = getattr(ranges, name)
            self.assertEqual(function.__module__, "everymending.ranges")
            self.assertEqual(list(inspect.signature(function).parameters), arguments)


class Ranges(Checked):
    def test_the_empty_store(self):
        question = read_question(WORKS, "[x] open(x |)")
        self.assertEqual(range_of(WORKS, (), question), (0, (), 0, ()))
        self.assertEqual(range_of((), (), (0, ())), (0, (), 0, ()))
        self.assertEqual(range_of((), (), read_question((), "[1]; [2]; [1]")), (2, (), 2, ()))

    def test_questions_without_joins(self):
        store = store_of(*works((1, 2), (1, 3)))
        for width in range(9):
            self.assertEqual(self.check(WORKS, store, (width, ())), (0, 0))

    def test_joins_without_atoms(self):
        store = store_of(*works((1, 2), (1, 3)))
        self.assertEqual(self.range("[]", store), (1, 1))
        self.assertEqual(self.range("[1]; [2]; [1]; [\"a\"]", store), (3, 3))
        self.assertEqual(self.range("[1]; [y] works(x | y)", store), (2, 2))
        self.assertEqual(self.range("[2]; [y] works(x | y)", store), (1, 2))

    def test_closed_questions(self):
        store = store_of(*works((1, 2), (1, 3), (4, 5)))
        for text, found in [("[] works(x | y)", (1, 1)), ("[] works(x | 2)", (0, 1)), ("[] works(x | 9)", (0, 0)),
                            ("[] works(x | 2); [] works(x | 3)", (1, 1)), ("[] works(x | 2), works(x | 3)", (0, 0)),
                            ("[] works(x | 2); [] works(x | 9)", (0, 1))]:
            self.assertEqual(self.range(text, store), found)

    def test_the_same_row_counts_once(self):
        store = store_of(*works((1, 2), (1, 3), (4, 2), (4, 3), (5, 2), (5, 6)))
        self.assertEqual(self.range("[y] works(x | y)", store), (1, 3))
        self.assertEqual(self.range("[x] works(x | y); [x] works(x | y)", store), (3, 3))
        self.assertEqual(self.range("[x] works(x | y); [y] works(x | y)", store), (4, 6))

    def test_rows_that_exclude_each_other(self):
        store = store_of(*works((1, 2), (1, 3), (1, 4), (5, 2), (5, 4)))
        self.assertEqual(self.range("[x, y] works(x | y)", store), (2, 2))
        self.assertEqual(self.range("[x, y] works(x | y), works(5 | y)", store), (1, 2))
        self.assertEqual(self.range("[x, y] works(x | y); [x, x] works(x | 4)", store), (2, 4))

    def test_clean_stores(self):
        store = store_of(*works((1, 2), (2, 2), (3, "a")), *opened(2))
        self.assertEqual(self.range("[x, y] works(x | y), open(y |)", store), (2, 2))

    def test_tables_without_key_columns_and_without_other_columns(self):
        schema = (("best", 0, 1), ("rain", 0, 0), ("seen", 2, 0))
        store = store_of(("best", (5,)), ("best", ("a",)), ("rain", ()), ("seen", (1, 5)), ("seen", (2, 5)))
        for text, found in [("[x] best(| x)", (1, 1)), ("[x] seen(x, y |), best(| y)", (0, 2)), ("[7] rain(|)", (1, 1)),
                            ("[x] best(| x), rain(|); [y] seen(x, y |)", (1, 2))]:
            self.assertEqual(self.check(schema, store, read_question(schema, text)), found)

    def test_cases_in_which_the_next_best_row_is_not_best(self):
        # Each block has one row that is best for itself alone, and others that are best together.
        store = store_of(*works((1, 1), (1, 4), (2, 2), (2, 4), (3, 3), (3, 4)), *opened(1, 2, 3))
        self.assertEqual(self.range("[y] works(x | y)", store), (1, 3))
        self.assertEqual(self.range("[y] works(x | y); [x] works(x | 4), open(x |)", store), (3, 4))
        self.assertEqual(self.sums("[y, x] works(x | y)", store, 1), (6, 6))

    def test_widths(self):
        store = store_of(*works((1, 2), (1, 3)))
        for width in range(1, 9):
            head = ", ".join(["y"] * width)
            self.assertEqual(self.range(f"[{head}] works(x | y); [{head}] works(y | 3)", store), (1, 2))


class Sums(Checked):
    def test_the_empty_store_and_questions_without_joins(self):
        self.assertEqual(range_of_sums(WORKS, (), read_question(WORKS, "[x] open(x |)"), 0), (0, (), 0, ()))
        self.assertEqual(range_of_sums(WORKS, (), (8, ()), 7), (0, (), 0, ()))
        self.assertEqual(range_of_sums(WORKS, (), read_question(WORKS, "[1]; [-5]; [1]"), 0), (-4, (), -4, ()))

    def test_each_column(self):
        store = store_of(*works((1, 2), (1, 30), (100, 2), (100, 7)))
        self.assertEqual(self.sums("[x, y, 5] works(x | y)", store, 0), (101, 101))
        self.assertEqual(self.sums("[x, y, 5] works(x | y)", store, 1), (4, 37))
        self.assertEqual(self.sums("[x, y, 5] works(x | y)", store, 2), (10, 10))
        self.assertEqual(self.sums("[y, 5] works(x | y)", store, 0), (2, 37))
        self.assertEqual(self.sums("[y, 5] works(x | y)", store, 1), (5, 10))

    def test_words_count_as_0(self):
        store = store_of(*works((1, "a"), (1, 3), (2, "b"), (2, -4), (5, "a"), (5, "b")))
        self.assertEqual(self.sums("[y] works(x | y)", store, 0), (-4, 3))
        self.assertEqual(self.sums("[x, y] works(x | y)", store, 1), (-4, 3))
        self.assertEqual(self.sums("[x, y] works(x | y), works(5 | y)", store, 1), (0, 0))
        self.assertEqual(self.sums('[x, "a"] works(x | y)', store, 1), (0, 0))

    def test_integers_below_0_and_great_ones(self):
        store = store_of(*works((1, -GREAT), (1, GREAT), (2, -GREAT), (2, 1), (3, -1), (3, "z")))
        self.assertEqual(self.sums("[y] works(x | y)", store, 0), (-GREAT - 1, GREAT + 1))
        self.assertEqual(self.sums("[x, y] works(x | y)", store, 1), (-2 * GREAT - 1, GREAT + 1))

    def test_rows_count_once_but_not_their_values(self):
        store = store_of(*works((1, 5), (1, 6), (2, 5), (2, 7)))
        self.assertEqual(self.sums("[y] works(x | y)", store, 0), (5, 13))
        self.assertEqual(self.sums("[y, x] works(x | y)", store, 0), (10, 13))

    def test_the_greatest_sum_is_not_that_of_the_most_rows(self):
        store = store_of(*works((1, 9), (1, -1), (2, 9), (2, -2), (3, 9), (3, -3)))
        self.assertEqual(self.range("[y] works(x | y)", store), (1, 3))
        self.assertEqual(self.sums("[y] works(x | y)", store, 0), (-6, 9))


class MadeUp(Checked):
    def test_made_up_cases(self):
        chances = Chances(22)
        seen = {"one number": 0, "several numbers": 0, "several sums": 0}
        while min(seen.values()) < 100:
            schema = chances.schema(FORMS, 4)
            values = chances.pick([[1, 2], [1, 2, "a"], [-3, 5, "a", "b"], [1, 2, 3]])
            store = chances.store(schema, chances.below(14), values)
            if plain.number_of_mendings(schema, store) > 100:
                continue
            question = chances.question(schema, chances.below(4), ["x", "y", "z"], values)
            check_question(schema, question)
            found = [plain.answers(mending, question) for mending in plain.mendings(schema, store)]
            numbers = [len(rows) for rows in found]
            self.assertEqual(self.check(schema, store, question), (min(numbers), max(numbers)))
            seen["one number" if min(numbers) == max(numbers) else "several numbers"] += 1
            for column in range(question[0]):
                sums = [plain.sum_of(rows, column) for rows in found]
                self.assertEqual(self.check(schema, store, question, column), (min(sums), max(sums)))
                seen["several sums"] += min(sums) < max(sums)


class VeryManyMendings(Checked):
    STORE = store_of(*works(*[(at, at % 5 + more) for at in range(60) for more in (0, 1, 2)]), *opened(2, 3, 6))

    def test_blocks_apart(self):
        self.assertEqual(count_mendings(WORKS, self.STORE), 3**60)
        self.assertEqual(self.range("[x] works(x | y), open(y |)", self.STORE), (0, 60))
        self.assertEqual(self.range("[x] works(x | y)", self.STORE), (60, 60))
        self.assertEqual(self.sums("[x, y] works(x | y)", self.STORE, 1), (120, 240))

    def test_blocks_with_common_rows(self):
        self.assertEqual(self.range("[y] works(x | y)", self.STORE), (2, 7))
        self.assertEqual(self.sums("[y] works(x | y)", self.STORE, 0), (5, 21))


if __name__ == "__main__":
    unittest.main()

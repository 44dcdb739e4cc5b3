import inspect
import unittest

from everymending import schemas
from everymending.errors import MendError, NoSchema
from everymending.schemas import check_schema, is_fact, key_of, table_of

LETTERS = "abcdefghijklmnopqrstuvwxyz"
NO_LETTERS = [chr(code) for code in range(32, 127) if chr(code) not in LETTERS] + ["\n", "\t"]
GREAT = 10**5000

WORKS = (("open", 1, 0), ("works", 1, 1))
COLUMNS = [(key, rest) for key in range(9) for rest in range(9 - key)]


def schema_of(many):
    """A schema of that many tables with different numbers of columns."""
    found = []
    for at in range(many):
        key, rest = COLUMNS[(at * 7) % len(COLUMNS)]
        found.append((LETTERS[at // 6] + LETTERS[at % 6 * 3], key, rest))
    return tuple(found)


def places(schema):
    """Indexes of the first, all middle and the last table."""
    return range(len(schema))


def replaced(schema, at, table):
    return schema[:at] + (table,) + schema[at + 1:]


def row_of(many):
    """A row of that many different values, integers and words by turns."""
    return tuple([LETTERS[at] if at % 2 else at * 10 - 5 for at in range(many)])


class Interface(unittest.TestCase):
    def test_functions_and_their_arguments(self):
        told = {"check_schema": ["schema"], "table_of": ["schema", "name"],
                "is_fact": ["schema", "name", "row"], "key_of": ["schema", "fact"]}
        for name, arguments in told.items():
            with self.subTest(name=name):
                function = getattr(schemas, name)
                self.assertEqual(function.__module__, "everymending.schemas")
                self.assertEqual(list(inspect.signature(function).parameters), arguments)


class GoodSchemas(unittest.TestCase):
    def check(self, schema):
        self.assertIsNone(check_schema(schema))

    def test_the_empty_schema(self):
        self.check(())

    def test_each_number_of_tables(self):
        for many in range(1, 21):
            with self.subTest(many=many):
                self.assertEqual(len(schema_of(many)), many)
                self.check(schema_of(many))

    def test_twenty_tables_of_the_same_form(self):
        for key, rest in [(0, 0), (0, 8), (8, 0), (1, 1)]:
            with self.subTest(key=key, rest=rest):
                self.check(tuple([(letter, key, rest) for letter in LETTERS[:20]]))
                self.check(tuple([(letter, key, rest) for letter in LETTERS[6:]]))

    def test_all_numbers_of_columns(self):
        for key, rest in COLUMNS:
            with self.subTest(key=key, rest=rest):
                self.check((("t", key, rest),))
                for at in range(3):
                    self.check(replaced((("a", 1, 1), ("b", 0, 2), ("c", 2, 0)), at,
                                        ("abc"[at], key, rest)))

    def test_names_in_order(self):
        names = [["a", "aa"], ["a", "ab", "b"], ["aa", "b"], ["aaa", "aab", "ab", "b", "ba"],
                 ["open", "works"], ["work", "works"], ["az", "b"], ["zzzz"], [LETTERS],
                 ["none", "table", "value", "var"], ["a" * 500, "a" * 501]]
        for some in names:
            with self.subTest(some=some):
                self.check(tuple([(name, 1, 1) for name in some]))

    def test_numbers_need_no_order(self):
        self.check((("a", 8, 0), ("b", 0, 8), ("c", 4, 4), ("d", 0, 0), ("e", 1, 0)))


class WrongSchemas(unittest.TestCase):
    def check(self, schema):
        with self.assertRaises(NoSchema) as context:
            check_schema(schema)
        self.assertIsInstance(context.exception, MendError)

    def test_too_many_tables(self):
        for many in [21, 22, 26, 30, 40]:
            with self.subTest(many=many):
                self.check(schema_of(many))
        self.check(tuple([(letter, 0, 0) for letter in LETTERS[:21]]))
        self.check(tuple([(letter, 1, 1) for letter in LETTERS]))

    def check_at_each_place(self, wrong):
        """`wrong` makes the faulty table out of the right one."""
        for schema in [schema_of(1), schema_of(2), schema_of(3), schema_of(7), schema_of(20)]:
            for at in places(schema):
                faulty = replaced(schema, at, wrong(schema[at]))
                with self.subTest(tables=len(schema), at=at):
                    self.check(faulty)

    def test_a_number_of_key_columns_below_0(self):
        for key in [-1, -2, -8, -9, -10**30, -GREAT]:
            self.check_at_each_place(lambda table: (table[0], key, 0))
            self.check_at_each_place(lambda table: (table[0], key, 1))
            self.check_at_each_place(lambda table: (table[0], key, 8))
            self.check_at_each_place(lambda table: (table[0], key, 8 - key))
            self.check_at_each_place(lambda table: (table[0], key, -key))

    def test_a_number_of_other_columns_below_0(self):
        for rest in [-1, -2, -8, -9, -10**30, -GREAT]:
            self.check_at_each_place(lambda table: (table[0], 0, rest))
            self.check_at_each_place(lambda table: (table[0], 1, rest))
            self.check_at_each_place(lambda table: (table[0], 8, rest))
            self.check_at_each_place(lambda table: (table[0], 8 - rest, rest))
            self.check_at_each_place(lambda table: (table[0], -rest, rest))

    def test_both_numbers_below_0(self):
        self.check_at_each_place(lambda table: (table[0], -1, -1))
        self.check_at_each_place(lambda table: (table[0], -GREAT, -GREAT))

    def test_a_sum_of_9(self):
        for key in range(10):
            self.check_at_each_place(lambda table: (table[0], key, 9 - key))

    def test_a_greater_sum(self):
        for key, rest in [(10, 0), (0, 10), (8, 8), (5, 5), (2, 8), (100, 0), (0, 100),
                          (10**30, 0), (0, 10**30), (2**64, 1), (1, 2**64), (GREAT, 0),
                          (0, GREAT), (GREAT, GREAT)]:
            self.check_at_each_place(lambda table: (table[0], key, rest))

    def test_a_name_that_is_no_word_behind_its_first_letter(self):
        # The name begins as before, so it is still in order: this is the only fault.
        for sign in NO_LETTERS:
            self.check_at_each_place(lambda table: (table[0] + sign, table[1], table[2]))
            self.check_at_each_place(lambda table: (table[0] + sign + "a", table[1], table[2]))

    def test_a_name_that_is_no_word_at_its_first_character(self):
        for schema in [schema_of(1), schema_of(2), schema_of(20)]:
            for sign in NO_LETTERS:
                at = 0 if sign < "a" else len(schema) - 1
                for name in [sign, sign + "a"]:
                    with self.subTest(tables=len(schema), name=name):
                        self.check(replaced(schema, at, (name,) + schema[at][1:]))

    def test_the_empty_name(self):
        self.check((("", 1, 1),))
        self.check((("", 0, 0),))
        self.check_at_each_place(lambda table: ("",) + table[1:])

    def test_names_not_in_order(self):
        for schema in [schema_of(2), schema_of(3), schema_of(8), schema_of(20)]:
            for at in range(len(schema) - 1):
                swapped = replaced(schema, at, schema[at + 1])
                swapped = replaced(swapped, at + 1, schema[at])
                with self.subTest(tables=len(schema), at=at):
                    self.check(swapped)
            with self.subTest(tables=len(schema)):
                self.check(schema[::-1])
                self.check(schema[1:] + schema[:1])
                self.check(schema[-1:] + schema[:-1])

    def test_names_not_in_alphabetical_order(self):
        names = [["aa", "a"], ["b", "aa"], ["works", "open"], ["works", "work"], ["b", "az"],
                 ["ab", "aab"], ["a", "c", "b"], ["b", "a", "c"], ["c", "a", "b"]]
        for some in names:
            with self.subTest(some=some):
                self.check(tuple([(name, 1, 1) for name in some]))
                # Ascending numbers must not make up for the names.
                self.check(tuple([(name, at, 1) for at, name in enumerate(some)]))

    def test_a_name_that_stands_twice(self):
        for schema in [schema_of(1), schema_of(2), schema_of(3), schema_of(8), schema_of(19)]:
            for at in places(schema):
                name, key, rest = schema[at]
                for again in [(name, key, rest), (name, 0, 0), (name, 8, 0), (name, 0, 8)]:
                    with self.subTest(tables=len(schema), at=at, again=again):
                        self.check(schema[:at] + (again,) + schema[at:])
                        self.check(schema[:at + 1] + (again,) + schema[at + 1:])

    def test_a_name_that_stands_twice_with_others_between(self):
        for schema in [schema_of(3), schema_of(8), schema_of(19)]:
            for at in places(schema):
                with self.subTest(tables=len(schema), at=at):
                    self.check(schema + (schema[at],))
                    self.check((schema[at],) + schema)

    def test_only_tables_with_faults(self):
        self.check((("", -1, 10),))
        self.check((("B", 9, 9), ("A", -1, -1)))

    def test_right_and_wrong_schemas_by_turns(self):
        wrong = (("open", 1, 8), ("works", 1, 1))
        for _ in range(3):
            self.assertIsNone(check_schema(WORKS))
            self.check(wrong)


class TableOf(unittest.TestCase):
    def check(self, schema, name, table):
        found = table_of(schema, name)
        self.assertEqual(found, table)
        if table is not None:
            self.assertIs(type(found), tuple)

    def test_each_table_of_schemas_of_each_size(self):
        for many in range(1, 21):
            schema = schema_of(many)
            for at in places(schema):
                with self.subTest(many=many, at=at):
                    self.check(schema, schema[at][0], schema[at])

    def test_a_name_that_is_another_object(self):
        for table in schema_of(20):
            self.check(schema_of(20), "".join(list(table[0])), table)

    def test_words_that_are_no_name_of_a_table(self):
        for name in ["a", "bar", "o", "op", "ope", "opens", "openn", "pen", "en", "p", "works" * 2,
                     "w", "work", "worksa", "orks", "openworks", "zzz", "z", "nepo", "owrks"]:
            with self.subTest(name=name):
                self.check(WORKS, name, None)

    def test_words_before_between_and_behind_the_names(self):
        schema = tuple([table for table in schema_of(20) if table[0] not in ("aa", "bg", "dd")])
        for name in ["aa", "bg", "dd", "a", "ab", "b", "c", "d", "dz", "zz"]:
            with self.subTest(name=name):
                self.check(schema, name, None)

    def test_the_beginning_of_a_name_that_is_a_name_too(self):
        schema = (("a", 1, 0), ("ab", 0, 1), ("abcd", 2, 2))
        self.check(schema, "a", ("a", 1, 0))
        self.check(schema, "ab", ("ab", 0, 1))
        self.check(schema, "abc", None)
        self.check(schema, "abcd", ("abcd", 2, 2))
        self.check(schema, "abcde", None)

    def test_strings_that_are_no_words(self):
        for name in ["", " ", "1", "Open", "OPEN", "oPen", "open ", " open", "open\n", "open\t",
                     "\"open\"", "open1", "op en", "open works", "0", "-1", "None"]:
            with self.subTest(name=name):
                self.check(WORKS, name, None)

    def test_the_empty_schema(self):
        for name in ["", "a", "open", "works", "1"]:
            with self.subTest(name=name):
                self.check((), name, None)

    def test_two_schemas_by_turns(self):
        other = (("open", 0, 3), ("rain", 0, 0))
        for _ in range(3):
            self.check(WORKS, "open", ("open", 1, 0))
            self.check(other, "open", ("open", 0, 3))
            self.check(WORKS, "works", ("works", 1, 1))
            self.check(other, "works", None)
            self.check(WORKS, "rain", None)
            self.check(other, "rain", ("rain", 0, 0))
            self.check((), "open", None)

    def test_schemas_that_are_made_anew(self):
        for key, rest in COLUMNS + COLUMNS[::-1]:
            with self.subTest(key=key, rest=rest):
                self.check((("a", 1, 1), ("t", key, rest)), "t", ("t", key, rest))


class IsFact(unittest.TestCase):
    def check(self, schema, name, row, result):
        self.assertIs(is_fact(schema, name, row), result)

    def test_facts(self):
        self.check(WORKS, "open", ("bar",), True)
        self.check(WORKS, "open", (5,), True)
        self.check(WORKS, "works", ("ann", "bar"), True)
        self.check(WORKS, "works", (-1, "bar"), True)
        self.check(WORKS, "works", ("ann", 10**30), True)
        self.check(WORKS, "works", (GREAT, -GREAT), True)

    def test_only_rows_of_the_right_length(self):
        for key, rest in COLUMNS:
            schema = (("a", 3, 1), ("t", key, rest), ("u", 2, 0))
            for many in range(12):
                with self.subTest(key=key, rest=rest, many=many):
                    self.check(schema, "t", row_of(many), many == key + rest)
                    self.check(schema, "t", ("w",) * many, many == key + rest)
                    self.check(schema, "t", (0,) * many, many == key + rest)

    def test_tables_at_each_place(self):
        for many in [1, 2, 3, 20]:
            schema = schema_of(many)
            for name, key, rest in schema:
                with self.subTest(many=many, name=name):
                    self.check(schema, name, row_of(key + rest), True)
                    self.check(schema, name, row_of(key + rest + 1), False)
                    if key + rest > 0:
                        self.check(schema, name, row_of(key + rest - 1), False)

    def test_the_name_of_no_table(self):
        for name in ["", "a", "ope", "opens", "work", "worksa", "Open", "open ", "1", "pen"]:
            for row in [(), ("bar",), ("ann", "bar"), (1,), (1, 2), (1, 2, 3)]:
                with self.subTest(name=name, row=row):
                    self.check(WORKS, name, row, False)

    def test_the_empty_schema(self):
        self.check((), "open", (), False)
        self.check((), "open", ("bar",), False)
        self.check((), "", (), False)

    def test_one_string_that_is_no_word_at_each_place(self):
        wrong = ["", "A", "1", " ", "\n", "Ann", "aNn", "anN", "a b", "ann\n", "\tann", "\"ann\"",
                 "a`", "{a", "-1"]
        for key, rest in COLUMNS:
            schema = (("t", key, rest),)
            for filled in [row_of(key + rest), ("w",) * (key + rest), (0,) * (key + rest)]:
                for at in range(key + rest):
                    for text in wrong:
                        with self.subTest(key=key, rest=rest, at=at, text=text):
                            row = filled[:at] + (text,) + filled[at + 1:]
                            self.check(schema, "t", row, False)

    def test_a_table_without_columns(self):
        schema = (("rain", 0, 0), ("sun", 0, 1))
        self.check(schema, "rain", (), True)
        self.check(schema, "rain", ("a",), False)
        self.check(schema, "rain", (0,), False)
        self.check(schema, "rain", ("",), False)
        self.check(schema, "sun", (), False)
        self.check(schema, "sun", ("a",), True)
        self.check(schema, "snow", (), False)

    def test_two_schemas_by_turns(self):
        other = (("open", 1, 1), ("rain", 0, 0), ("works", 0, 1))
        for _ in range(3):
            self.check(WORKS, "open", ("bar",), True)
            self.check(other, "open", ("bar",), False)
            self.check(WORKS, "open", ("bar", 3), False)
            self.check(other, "open", ("bar", 3), True)
            self.check(WORKS, "works", ("ann", "bar"), True)
            self.check(other, "works", ("ann", "bar"), False)
            self.check(WORKS, "works", ("ann",), False)
            self.check(other, "works", ("ann",), True)
            self.check(WORKS, "rain", (), False)
            self.check(other, "rain", (), True)

    def test_the_same_names_and_other_numbers_by_turns(self):
        for many in list(range(9)) + list(range(8, -1, -1)):
            schema = (("t", 0, many),)
            with self.subTest(many=many):
                for length in range(10):
                    self.check(schema, "t", row_of(length), length == many)


class KeyOf(unittest.TestCase):
    def check(self, schema, fact, key):
        found = key_of(schema, fact)
        self.assertEqual(found, key)
        self.assertIs(type(found), tuple)

    def test_all_numbers_of_columns(self):
        for key, rest in COLUMNS:
            row = row_of(key + rest)
            with self.subTest(key=key, rest=rest):
                self.check((("t", key, rest),), ("t", row), row_of(key))
                self.check((("a", 3, 1), ("t", key, rest), ("u", 2, 0)), ("t", row), row_of(key))

    def test_a_table_without_key_columns(self):
        self.check((("best", 0, 1),), ("best", (5,)), ())
        self.check((("rain", 0, 0),), ("rain", ()), ())
        self.check((("t", 0, 8),), ("t", row_of(8)), ())

    def test_a_table_without_other_columns(self):
        self.check(WORKS, ("open", ("bar",)), ("bar",))
        self.check((("t", 8, 0),), ("t", row_of(8)), row_of(8))

    def test_a_table_with_both(self):
        self.check(WORKS, ("works", ("ann", "bar")), ("ann",))
        self.check((("open", 2, 1),), ("open", ("bar", 3, "yes")), ("bar", 3))
        self.check((("t", 1, 7),), ("t", row_of(8)), row_of(1))
        self.check((("t", 7, 1),), ("t", row_of(8)), row_of(7))

    def test_values_that_stand_twice(self):
        self.check((("t", 2, 2),), ("t", ("a", "a", "a", "a")), ("a", "a"))
        self.check((("t", 3, 1),), ("t", (2, 1, 2, 1)), (2, 1, 2))

    def test_the_values_stay_in_their_order(self):
        self.check((("t", 4, 1),), ("t", ("z", 5, "a", -5, 0)), ("z", 5, "a", -5))

    def test_great_values(self):
        found = key_of((("t", 2, 1),), ("t", (GREAT, -GREAT, 1)))
        self.assertTrue(found == (GREAT, -GREAT))

    def test_each_table_of_schemas_of_each_size(self):
        for many in range(1, 21):
            schema = schema_of(many)
            for name, key, rest in schema:
                with self.subTest(many=many, name=name):
                    self.check(schema, (name, row_of(key + rest)), row_of(key))

    def test_two_schemas_by_turns(self):
        other = (("open", 0, 1), ("works", 2, 0))
        for _ in range(3):
            self.check(WORKS, ("open", ("bar",)), ("bar",))
            self.check(other, ("open", ("bar",)), ())
            self.check(WORKS, ("works", ("ann", "bar")), ("ann",))
            self.check(other, ("works", ("ann", "bar")), ("ann", "bar"))

    def test_the_same_fact_in_schemas_that_are_made_anew(self):
        for key in list(range(9)) + list(range(8, -1, -1)):
            with self.subTest(key=key):
                self.check((("t", key, 8 - key),), ("t", row_of(8)), row_of(8)[:key])


if __name__ == "__main__":
    unittest.main()

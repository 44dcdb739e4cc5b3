import inspect
import unittest

from everymending import blocks
from everymending.blocks import blocks_of, is_clean, make_store, rivals_of
from everymending.errors import MendError, NoRow

GREAT = 10**5000
NO_WORDS = ["", "A", "1", " ", "\n", "\t", "Ann", "aNn", "anN", "a b", "ann\n", " ann", "\"ann\"",
            "a`", "{a", "-1", "a1", "|"]

WORKS = (("open", 1, 0), ("works", 1, 1))
# Tables of all forms: without columns, without key columns, without other columns, with both.
FORMS = (("best", 0, 2), ("day", 1, 1), ("open", 2, 0), ("rain", 0, 0), ("works", 2, 1))

FORMS_STORE = (
    ("best", (-1, "a")), ("best", (5, 0)), ("best", ("a", "a")),
    ("day", (-3, 7)), ("day", (2, 1)), ("day", (2, 9)), ("day", (2, 10)), ("day", (10, 1)),
    ("day", ("a", 1)), ("day", ("ab", 1)), ("day", ("ab", "c")), ("day", ("b", 1)),
    ("open", (1, 2)), ("open", (1, "x")), ("open", ("x", 1)),
    ("rain", ()),
    ("works", ("ann", "bar", 1)), ("works", ("ann", "bar", 2)), ("works", ("ann", "shop", 1)),
    ("works", ("bob", "bar", 1)),
)
FORMS_BLOCKS = (
    ("best", (), ((-1, "a"), (5, 0), ("a", "a"))),
    ("day", (-3,), ((-3, 7),)),
    ("day", (2,), ((2, 1), (2, 9), (2, 10))),
    ("day", (10,), ((10, 1),)),
    ("day", ("a",), (("a", 1),)),
    ("day", ("ab",), (("ab", 1), ("ab", "c"))),
    ("day", ("b",), (("b", 1),)),
    ("open", (1, 2), ((1, 2),)),
    ("open", (1, "x"), ((1, "x"),)),
    ("open", ("x", 1), (("x", 1),)),
    ("rain", (), ((),)),
    ("works", ("ann", "bar"), (("ann", "bar", 1), ("ann", "bar", 2))),
    ("works", ("ann", "shop"), (("ann", "shop", 1),)),
    ("works", ("bob", "bar"), (("bob", "bar", 1),)),
)

# Ascending, as [4] orders values.
ORDERED = [-GREAT, -10**30, -2**64, -10, -9, -2, -1, 0, 1, 2, 9, 10, 11, 100, 2**53, 2**53 + 1,
           10**30, GREAT, "a", "aa", "ab", "abc", "b", "ba", "z", "za"]


def mixed(facts, step):
    """The facts in another order; step has no divisor in common with their number."""
    return [facts[(at * step) % len(facts)] for at in range(len(facts))]


def great_store():
    """A store of 200 facts in 100 blocks of two."""
    return tuple([("works", (at, word)) for at in range(100) for word in ["bar", "shop"]])


class Interface(unittest.TestCase):
    def test_functions_and_their_arguments(self):
        told = {"make_store": ["schema", "facts"], "blocks_of": ["schema", "store"],
                "is_clean": ["schema", "store"], "rivals_of": ["schema", "store", "fact"]}
        for name, arguments in told.items():
            with self.subTest(name=name):
                function = getattr(blocks, name)
                self.assertEqual(function.__module__, "everymending.blocks")
                self.assertEqual(list(inspect.signature(function).parameters), arguments)


class MakeStore(unittest.TestCase):
    def check(self, schema, facts, store):
        before = list(facts)
        found = make_store(schema, facts)
        self.assertTrue(found == store)
        self.assertIs(type(found), tuple)
        for fact in found:
            self.assertIs(type(fact), tuple)
            self.assertIs(type(fact[1]), tuple)
        self.assertTrue(facts == before)

    def test_no_facts(self):
        self.check((), [], ())
        self.check(WORKS, [], ())
        self.check((("rain", 0, 0),), [], ())

    def test_one_fact_of_each_table(self):
        for fact in FORMS_STORE:
            with self.subTest(fact=fact):
                self.check(FORMS, [fact], (fact,))

    def test_facts_in_any_order(self):
        facts = list(FORMS_STORE)
        self.check(FORMS, facts, FORMS_STORE)
        self.check(FORMS, facts[::-1], FORMS_STORE)
        for step in [3, 7, 9, 11, 13, 17, 19]:
            with self.subTest(step=step):
                self.check(FORMS, mixed(facts, step), FORMS_STORE)

    def test_facts_that_stand_several_times(self):
        facts = list(FORMS_STORE)
        self.check(FORMS, facts + facts, FORMS_STORE)
        self.check(FORMS, facts + facts[::-1] + mixed(facts, 3), FORMS_STORE)
        self.check(FORMS, [facts[0]] * 5, (facts[0],))
        self.check((("rain", 0, 0),), [("rain", ())] * 3, (("rain", ()),))

    def test_equal_facts_that_are_other_objects(self):
        again = [("".join(list(name)), tuple(list(row))) for name, row in FORMS_STORE]
        self.check(FORMS, list(FORMS_STORE) + again, FORMS_STORE)

    def test_integers_of_any_size_and_sign_beside_words(self):
        rows = [(value,) for value in ORDERED]
        for schema in [(("t", 1, 0),), (("t", 0, 1),)]:
            store = tuple([("t", row) for row in rows])
            self.check(schema, list(store)[::-1], store)
            self.check(schema, mixed(store, 3), store)
            self.check(schema, mixed(store, 5) + mixed(store, 9), store)

    def test_values_of_both_kinds_at_each_place_of_a_row(self):
        some = [-GREAT, 9, 10, "a", "aa"]
        rows = [(one, two, three) for one in some for two in some for three in some]
        store = tuple([("t", row) for row in rows])
        for schema in [(("t", 1, 2),), (("t", 3, 0),), (("t", 0, 3),)]:
            self.check(schema, mixed(store, 7), store)

    def test_names_before_rows(self):
        schema = (("a", 0, 1), ("aa", 1, 0), ("b", 1, 1), ("ba", 0, 0))
        store = (("a", ("z",)), ("aa", (3,)), ("b", (-5, 0)), ("b", ("a", 0)), ("ba", ()))
        self.check(schema, list(store)[::-1], store)
        self.check(schema, mixed(store, 3), store)

    def test_two_hundred_facts(self):
        store = great_store()
        self.check(WORKS, mixed(store, 7), store)
        self.check(WORKS, mixed(store, 11) + list(store)[:50], store)

    def test_later_changes_to_the_list_have_no_effect(self):
        facts = [("works", ("bob", "bar")), ("open", ("bar",))]
        store = make_store(WORKS, facts)
        facts.append(("open", ("shop",)))
        facts[0] = ("works", ("ann", "bar"))
        self.assertEqual(store, (("open", ("bar",)), ("works", ("bob", "bar"))))
        self.assertEqual(make_store(WORKS, facts[1:2]), (("open", ("bar",)),))

    def test_two_schemas_by_turns(self):
        other = (("open", 0, 2), ("works", 0, 1))
        for _ in range(3):
            self.check(WORKS, [("works", ("ann", 1)), ("open", (1,))],
                       (("open", (1,)), ("works", ("ann", 1))))
            self.check(other, [("works", ("ann",)), ("open", (1, 2))],
                       (("open", (1, 2)), ("works", ("ann",))))
            with self.assertRaises(NoRow):
                make_store(other, [("open", (1,))])
            with self.assertRaises(NoRow):
                make_store(WORKS, [("open", (1, 2))])


class PairsThatAreNoFacts(unittest.TestCase):
    def check(self, schema, facts):
        before = list(facts)
        with self.assertRaises(NoRow) as context:
            make_store(schema, facts)
        self.assertIsInstance(context.exception, MendError)
        self.assertEqual(facts, before)

    def check_at_each_place(self, wrong):
        """The wrong pair alone, and at each place among facts."""
        self.check(FORMS, [wrong])
        facts = list(FORMS_STORE)
        for at in range(len(facts) + 1):
            with self.subTest(wrong=wrong, at=at):
                self.check(FORMS, facts[:at] + [wrong] + facts[at:])
                self.check(FORMS, facts[::-1][:at] + [wrong, wrong] + facts[::-1][at:])

    def test_the_name_of_no_table(self):
        for name in ["", "a", "days", "da", "Day", "day ", "1", "works ", "zzz"]:
            for row in [(), (1,), ("a", 1), ("ann", "bar", 1)]:
                self.check_at_each_place((name, row))

    def test_rows_of_another_length(self):
        for name, key, rest in FORMS:
            for many in range(10):
                if many != key + rest:
                    self.check_at_each_place((name, (1,) * many))
                    self.check_at_each_place((name, ("a",) * many))

    def test_strings_that_are_no_words(self):
        for text in NO_WORDS:
            for wrong in [("best", (text, 1)), ("best", (1, text)), ("day", (text, "a")),
                          ("day", ("a", text)), ("open", (text, 1)), ("open", ("a", text)),
                          ("works", (text, "a", 1)), ("works", ("a", text, 1)),
                          ("works", ("a", 1, text))]:
                self.check_at_each_place(wrong)

    def test_the_empty_schema(self):
        self.check((), [("open", ("bar",))])
        self.check((), [("rain", ())])
        self.check((), [("", ())])

    def test_a_fact_of_another_table(self):
        self.check(WORKS, [("works", ("ann",))])
        self.check(WORKS, [("open", ("ann", "bar"))])
        self.check(WORKS, [("open", ("bar",)), ("works", ("bar",))])

    def test_right_and_wrong_lists_by_turns(self):
        for _ in range(3):
            self.check(WORKS, [("open", ("bar",)), ("works", ("ann", "Bar"))])
            self.assertEqual(make_store(WORKS, [("open", ("bar",))]), (("open", ("bar",)),))


class BlocksOf(unittest.TestCase):
    def check(self, schema, store, told):
        found = blocks_of(schema, store)
        self.assertTrue(found == told)
        self.assertIs(type(found), tuple)
        for block in found:
            for part in [block, block[1], block[2]] + list(block[2]):
                self.assertIs(type(part), tuple)

    def test_the_example(self):
        store = (("works", ("ann", "bar")), ("works", ("ann", "shop")), ("works", ("bob", "bar")))
        self.check((("works", 1, 1),), store,
                   (("works", ("ann",), (("ann", "bar"), ("ann", "shop"))),
                    ("works", ("bob",), (("bob", "bar"),))))

    def test_the_empty_store(self):
        for schema in [(), WORKS, FORMS, (("rain", 0, 0),)]:
            with self.subTest(schema=schema):
                self.check(schema, (), ())

    def test_tables_of_all_forms(self):
        self.check(FORMS, FORMS_STORE, FORMS_BLOCKS)

    def test_each_part_of_the_store(self):
        for low in range(len(FORMS_BLOCKS)):
            for high in range(low, len(FORMS_BLOCKS) + 1):
                told = FORMS_BLOCKS[low:high]
                store = tuple([(name, row) for name, key, rows in told for row in rows])
                self.check(FORMS, store, told)

    def test_a_table_without_key_columns_has_one_block(self):
        rows = tuple([(value,) for value in ORDERED])
        store = tuple([("t", row) for row in rows])
        self.check((("t", 0, 1),), store, (("t", (), rows),))
        self.check((("a", 0, 0), ("b", 0, 2)),
                   (("a", ()), ("b", (1, 2)), ("b", (2, 1)), ("b", ("a", 1))),
                   (("a", (), ((),)), ("b", (), ((1, 2), (2, 1), ("a", 1)))))

    def test_a_table_without_other_columns_has_blocks_of_one_row(self):
        rows = tuple([(value,) for value in ORDERED])
        store = tuple([("t", row) for row in rows])
        self.check((("t", 1, 0),), store, tuple([("t", row, (row,)) for row in rows]))
        self.check((("t", 2, 0),), (("t", (1, 1)), ("t", (1, 2)), ("t", (2, 1))),
                   (("t", (1, 1), ((1, 1),)), ("t", (1, 2), ((1, 2),)), ("t", (2, 1), ((2, 1),))))

    def test_the_order_of_the_keys(self):
        store = tuple([("t", (value, other)) for value in ORDERED for other in [-1, 0, "a"]])
        told = tuple([("t", (value,), ((value, -1), (value, 0), (value, "a")))
                      for value in ORDERED])
        self.check((("t", 1, 1),), store, told)

    def test_the_whole_key_counts(self):
        store = (("t", (1, 1, 1)), ("t", (1, 1, 2)), ("t", (1, 2, 1)), ("t", (2, 1, 1)),
                 ("t", (2, 1, 2)), ("t", (2, 2, 1)))
        rows = tuple([row for name, row in store])
        self.check((("t", 0, 3),), store, (("t", (), rows),))
        self.check((("t", 1, 2),), store, (("t", (1,), rows[:3]), ("t", (2,), rows[3:])))
        self.check((("t", 2, 1),), store,
                   (("t", (1, 1), rows[:2]), ("t", (1, 2), rows[2:3]),
                    ("t", (2, 1), rows[3:5]), ("t", (2, 2), rows[5:])))
        self.check((("t", 3, 0),), store, tuple([("t", row, (row,)) for row in rows]))

    def test_the_same_key_in_several_tables(self):
        schema = (("a", 1, 1), ("b", 1, 1), ("c", 1, 0))
        store = (("a", (1, 1)), ("a", (1, 2)), ("b", (1, 1)), ("b", (1, 3)), ("c", (1,)))
        self.check(schema, store,
                   (("a", (1,), ((1, 1), (1, 2))), ("b", (1,), ((1, 1), (1, 3))),
                    ("c", (1,), ((1,),))))

    def test_eight_columns(self):
        row, other = (1, 2, 3, 4, 5, 6, 7, 8), (1, 2, 3, 4, 5, 6, 7, 9)
        for key in range(8):
            with self.subTest(key=key):
                self.check((("t", key, 8 - key),), (("t", row), ("t", other)),
                           (("t", row[:key], (row, other)),))
        self.check((("t", 8, 0),), (("t", row), ("t", other)),
                   (("t", row, (row,)), ("t", other, (other,))))

    def test_two_hundred_facts(self):
        self.check(WORKS, great_store(),
                   tuple([("works", (at,), ((at, "bar"), (at, "shop"))) for at in range(100)]))

    def test_two_schemas_by_turns(self):
        store = (("t", (1, 1)), ("t", (1, 2)))
        for _ in range(3):
            self.check((("t", 1, 1),), store, (("t", (1,), ((1, 1), (1, 2))),))
            self.check((("t", 2, 0),), store,
                       (("t", (1, 1), ((1, 1),)), ("t", (1, 2), ((1, 2),))))
            self.check((("t", 0, 2),), store, (("t", (), ((1, 1), (1, 2))),))


class IsClean(unittest.TestCase):
    def check(self, schema, store, told):
        self.assertIs(is_clean(schema, store), told)

    def test_the_empty_store(self):
        for schema in [(), WORKS, FORMS]:
            with self.subTest(schema=schema):
                self.check(schema, (), True)

    def test_each_fact_alone(self):
        for fact in FORMS_STORE:
            with self.subTest(fact=fact):
                self.check(FORMS, (fact,), True)

    def test_one_block_with_two_rows_at_each_place(self):
        self.check(FORMS, FORMS_STORE, False)
        clean = [(name, rows[0]) for name, key, rows in FORMS_BLOCKS]
        self.check(FORMS, tuple(clean), True)
        for name, _, rows in FORMS_BLOCKS:
            if len(rows) > 1:
                with self.subTest(name=name, rows=rows):
                    self.check(FORMS, tuple([fact for fact in FORMS_STORE if fact in clean
                                             or fact == (name, rows[-1])]), False)

    def test_one_row_of_each_block(self):
        for name, _, rows in FORMS_BLOCKS:
            self.check(FORMS, tuple([(name, row) for row in rows]), len(rows) == 1)

    def test_a_table_without_key_columns(self):
        schema = (("best", 0, 1), ("rain", 0, 0))
        self.check(schema, (("best", (1,)),), True)
        self.check(schema, (("best", (1,)), ("rain", ())), True)
        self.check(schema, (("best", (1,)), ("best", (2,))), False)
        self.check(schema, (("best", (1,)), ("best", ("a",)), ("rain", ())), False)

    def test_a_table_without_other_columns(self):
        store = tuple([("t", (one, two)) for one in ORDERED[:14] for two in ORDERED[:14]])
        self.check((("t", 2, 0),), store, True)
        self.check((("t", 1, 1),), store, False)

    def test_great_stores(self):
        store = great_store()
        self.check(WORKS, store, False)
        self.check(WORKS, store[::2], True)
        self.check(WORKS, store[1::2], True)
        for at in range(0, 200, 2):
            self.check(WORKS, store[1:at:2] + store[at:at + 2] + store[at + 3::2], False)

    def test_two_schemas_by_turns(self):
        store = (("t", (1, 1)), ("t", (1, 2)))
        for _ in range(3):
            self.check((("t", 1, 1),), store, False)
            self.check((("t", 2, 0),), store, True)
            self.check((("t", 0, 2),), store, False)


class RivalsOf(unittest.TestCase):
    def check(self, schema, store, fact, told):
        found = rivals_of(schema, store, fact)
        self.assertTrue(found == told)
        self.assertIs(type(found), tuple)

    def test_tables_of_all_forms(self):
        for name, _, rows in FORMS_BLOCKS:
            for row in rows:
                with self.subTest(name=name, row=row):
                    self.check(FORMS, FORMS_STORE, (name, row),
                               tuple([(name, other) for other in rows if other != row]))

    def test_a_fact_that_is_another_object(self):
        for name, row in FORMS_STORE:
            again = ("".join(list(name)), tuple(list(row)))
            self.check(FORMS, FORMS_STORE, again, rivals_of(FORMS, FORMS_STORE, (name, row)))
            self.assertNotIn(again, rivals_of(FORMS, FORMS_STORE, again))

    def test_no_rivals(self):
        self.check((("rain", 0, 0),), (("rain", ()),), ("rain", ()), ())
        self.check(WORKS, (("works", ("ann", "bar")), ("works", ("bob", "bar"))),
                   ("works", ("ann", "bar")), ())
        self.check((("t", 2, 0),), (("t", (1, 1)), ("t", (1, 2))), ("t", (1, 1)), ())

    def test_only_facts_of_the_same_table(self):
        schema = (("a", 1, 1), ("b", 1, 1), ("c", 1, 0))
        store = (("a", (1, 1)), ("a", (1, 2)), ("b", (1, 1)), ("b", (1, 3)), ("c", (1,)))
        self.check(schema, store, ("a", (1, 1)), (("a", (1, 2)),))
        self.check(schema, store, ("a", (1, 2)), (("a", (1, 1)),))
        self.check(schema, store, ("b", (1, 1)), (("b", (1, 3)),))
        self.check(schema, store, ("b", (1, 3)), (("b", (1, 1)),))
        self.check(schema, store, ("c", (1,)), ())

    def test_a_table_without_key_columns(self):
        store = tuple([("t", (value,)) for value in ORDERED])
        for at in range(len(store)):
            self.check((("t", 0, 1),), store, store[at], store[:at] + store[at + 1:])
            self.check((("t", 1, 0),), store, store[at], ())

    def test_great_stores(self):
        store = great_store()
        for at in range(0, 200, 2):
            self.check(WORKS, store, store[at], (store[at + 1],))
            self.check(WORKS, store, store[at + 1], (store[at],))

    def test_two_schemas_by_turns(self):
        store = (("t", (1, 1)), ("t", (1, 2)), ("t", (2, 1)))
        for _ in range(3):
            self.check((("t", 1, 1),), store, ("t", (1, 2)), (("t", (1, 1)),))
            self.check((("t", 2, 0),), store, ("t", (1, 2)), ())
            self.check((("t", 0, 2),), store, ("t", (1, 2)), (("t", (1, 1)), ("t", (2, 1))))


if __name__ == "__main__":
    unittest.main()

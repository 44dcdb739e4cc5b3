import inspect
import unittest

from everymending import writing
from everymending.writing import write_book, write_question

LETTERS = "abcdefghijklmnopqrstuvwxyz"
# The greatest integers that may be written: 60 digits.
GREAT = 10**60 - 1

WORKS = (("open", 1, 0), ("works", 1, 1))
FORMS = (("best", 0, 1), ("open", 2, 0), ("pair", 0, 2), ("rain", 0, 0), ("works", 1, 1))

# Values in ascending order, and their texts.
VALUES = [(-GREAT, "-" + "9" * 60), (-10**59, "-1" + "0" * 59), (-2**64, "-18446744073709551616"),
          (-100, "-100"), (-10, "-10"), (-1, "-1"), (0, "0"), (1, "1"), (7, "7"), (10, "10"),
          (1000000, "1000000"), (2**53 + 1, "9007199254740993"),
          (12345678901234567890, "12345678901234567890"), (10**59, "1" + "0" * 59),
          (GREAT, "9" * 60),
          ("a", '"a"'), ("ann", '"ann"'), ("none", '"none"'), ("table", '"table"'),
          ("value", '"value"'), ("var", '"var"'), ("x", '"x"'), ("z" * 100, '"' + "z" * 100 + '"')]


def var(name):
    return ("var", name)


def val(value):
    return ("value", value)


def atom(name, *terms):
    return (name, terms)


def join(head, *body):
    return (tuple(head), body)


X, Y, Z = var("x"), var("y"), var("z")


class Interface(unittest.TestCase):
    def test_functions_and_their_arguments(self):
        told = {"write_book": ["schema", "store"], "write_question": ["schema", "question"]}
        for name, arguments in told.items():
            with self.subTest(name=name):
                function = getattr(writing, name)
                self.assertEqual(function.__module__, "everymending.writing")
                self.assertEqual(list(inspect.signature(function).parameters), arguments)


class WriteBook(unittest.TestCase):
    def check(self, schema, store, *lines):
        text = write_book(schema, store)
        self.assertEqual(text, "\n".join(lines))
        self.assertIs(type(text), str)

    def test_no_tables(self):
        self.assertEqual(write_book((), ()), "")

    def test_the_example(self):
        text = 'table works 1 1\nworks("ann" | "bar")\nworks("ann" | "shop")'
        store = (("works", ("ann", "bar")), ("works", ("ann", "shop")))
        self.assertEqual(write_book((("works", 1, 1),), store), text)

    def test_tables_without_facts(self):
        self.check((("rain", 0, 0),), (), "table rain 0 0")
        self.check(WORKS, (), "table open 1 0", "table works 1 1")
        self.check(FORMS, (), "table best 0 1", "table open 2 0", "table pair 0 2",
                   "table rain 0 0", "table works 1 1")

    def test_twenty_tables(self):
        schema = tuple([(letter, at % 5, at % 4) for at, letter in enumerate(LETTERS[:20])])
        self.check(schema, (), *[f"table {letter} {at % 5} {at % 4}"
                                 for at, letter in enumerate(LETTERS[:20])])

    def test_all_forms_of_tables(self):
        self.check((("rain", 0, 0),), (("rain", ()),), "table rain 0 0", "rain(|)")
        self.check((("open", 2, 0),), (("open", ("bar", 3)),), "table open 2 0", 'open("bar", 3 |)')
        self.check((("best", 0, 1),), (("best", (5,)),), "table best 0 1", "best(| 5)")
        self.check((("works", 1, 1),), (("works", ("ann", "shop")),),
                   "table works 1 1", 'works("ann" | "shop")')

    def test_all_numbers_of_columns(self):
        for key in range(9):
            for rest in range(9 - key):
                row = tuple([at * 10 - 5 if at % 2 else LETTERS[at] for at in range(key + rest)])
                texts = ['"a"', "5", '"c"', "25", '"e"', "45", '"g"', "65"][:key + rest]
                before = ", ".join(texts[:key]) + " " if key > 0 else ""
                behind = " " + ", ".join(texts[key:]) if rest > 0 else ""
                with self.subTest(key=key, rest=rest):
                    self.check((("t", key, rest),), (("t", row),),
                               f"table t {key} {rest}", f"t({before}|{behind})")

    def test_values(self):
        for value, text in VALUES:
            with self.subTest(value=value):
                self.check((("t", 1, 1),), (("t", (value, 0)),), "table t 1 1", f"t({text} | 0)")
                self.check((("t", 1, 1),), (("t", (0, value)),), "table t 1 1", f"t(0 | {text})")
                self.check((("t", 2, 2),), (("t", (value, value, value, value)),),
                           "table t 2 2", f"t({text}, {text} | {text}, {text})")

    def test_all_facts_in_their_order(self):
        self.check((("t", 1, 0),), tuple([("t", (value,)) for value, text in VALUES]),
                   "table t 1 0", *[f"t({text} |)" for value, text in VALUES])
        self.check((("t", 0, 1),), tuple([("t", (value,)) for value, text in VALUES]),
                   "table t 0 1", *[f"t(| {text})" for value, text in VALUES])

    def test_tables_before_facts(self):
        store = (("best", (-2,)), ("best", ("a",)), ("open", (1, 2)), ("open", ("a", 1)),
                 ("pair", (0, "b")), ("rain", ()), ("works", ("ann", "bar")),
                 ("works", ("ann", "shop")))
        self.check(FORMS, store, "table best 0 1", "table open 2 0", "table pair 0 2",
                   "table rain 0 0", "table works 1 1", "best(| -2)", 'best(| "a")', "open(1, 2 |)",
                   'open("a", 1 |)', 'pair(| 0, "b")', "rain(|)", 'works("ann" | "bar")',
                   'works("ann" | "shop")')

    def test_names_with_another_meaning(self):
        schema = (("none", 0, 0), ("table", 1, 1), ("var", 1, 0))
        store = (("none", ()), ("table", ("table", "none")), ("var", ("var",)))
        self.check(schema, store, "table none 0 0", "table table 1 1", "table var 1 0", "none(|)",
                   'table("table" | "none")', 'var("var" |)')

    def test_two_hundred_facts(self):
        store = tuple([("works", (at, word)) for at in range(-50, 50) for word in ["bar", "shop"]])
        self.check(WORKS, store, "table open 1 0", "table works 1 1",
                   *[f'works({at} | "{word}")' for at in range(-50, 50) for word in ["bar", "shop"]])

    def test_two_schemas_by_turns(self):
        store = (("t", (1, 2)),)
        for _ in range(3):
            self.check((("t", 1, 1),), store, "table t 1 1", "t(1 | 2)")
            self.check((("t", 2, 0),), store, "table t 2 0", "t(1, 2 |)")
            self.check((("t", 0, 2),), store, "table t 0 2", "t(| 1, 2)")
            self.check((("t", 0, 2), ("u", 0, 0)), store, "table t 0 2", "table u 0 0", "t(| 1, 2)")


class WriteQuestion(unittest.TestCase):
    def check(self, schema, question, text):
        found = write_question(schema, question)
        self.assertEqual(found, text)
        self.assertIs(type(found), str)

    def test_no_joins(self):
        for width in range(9):
            self.check(WORKS, (width, ()), f"none {width}")
            self.check((), (width, ()), f"none {width}")

    def test_no_head_and_no_atoms(self):
        self.check((), (0, (join([]),)), "[]")
        self.check(WORKS, (0, (join([]), join([]))), "[]; []")
        self.check(WORKS, (0, (join([]),) * 8), "; ".join(["[]"] * 8))

    def test_no_head(self):
        self.check(WORKS, (0, (join([], atom("works", X, Y), atom("open", Y)),)),
                   "[] works(x | y), open(y |)")

    def test_no_atoms(self):
        self.check(WORKS, (1, (join([val("a")]),)), '["a"]')
        self.check(WORKS, (3, (join([val(-1), val("x"), val(0)]),)), '[-1, "x", 0]')

    def test_the_example(self):
        schema = (("open", 2, 0), ("works", 1, 1))
        self.check(schema, (2, (join([X, val("a")], atom("works", X, Y), atom("open", Y, val(3))),)),
                   '[x, "a"] works(x | y), open(y, 3 |)')

    def test_one_atom(self):
        self.check(WORKS, (1, (join([X], atom("open", X)),)), "[x] open(x |)")
        self.check(WORKS, (1, (join([X], atom("works", X, val("bar"))),)), '[x] works(x | "bar")')
        self.check(WORKS, (2, (join([Y, X], atom("works", X, Y)),)), "[y, x] works(x | y)")

    def test_all_forms_of_tables(self):
        self.check(FORMS, (1, (join([X], atom("rain"), atom("open", X, val("bar")), atom("best", X),
                                    atom("pair", X, val(7)), atom("works", val(5), Y)),)),
                   '[x] rain(|), open(x, "bar" |), best(| x), pair(| x, 7), works(5 | y)')

    def test_all_numbers_of_columns(self):
        terms = [X, val(-5), val("c"), Y, var("table"), val("none"), val(0), Z]
        texts = ["x", "-5", '"c"', "y", "table", '"none"', "0", "z"]
        for key in range(9):
            for rest in range(9 - key):
                many = key + rest
                before = ", ".join(texts[:key]) + " " if key > 0 else ""
                behind = " " + ", ".join(texts[key:many]) if rest > 0 else ""
                with self.subTest(key=key, rest=rest):
                    self.check((("t", key, rest),), (0, (join([], atom("t", *terms[:many])),)),
                               f"[] t({before}|{behind})")

    def test_heads_of_each_width(self):
        terms = [X, val(-5), val("c"), Y, X, val("x"), val(0), Y]
        texts = ["x", "-5", '"c"', "y", "x", '"x"', "0", "y"]
        for width in range(1, 9):
            self.check(WORKS, (width, (join(terms[:width], atom("works", X, Y)),)),
                       "[" + ", ".join(texts[:width]) + "] works(x | y)")

    def test_values_and_variables(self):
        for value, text in VALUES:
            with self.subTest(value=value):
                self.check(WORKS, (1, (join([val(value)], atom("works", val(value), val(value))),)),
                           f"[{text}] works({text} | {text})")
        for name in ["a", "x", "ann", "none", "table", "open", "works", "value", "var", "z" * 100]:
            with self.subTest(name=name):
                self.check(WORKS, (1, (join([var(name)], atom("works", val(name), var(name))),)),
                           f'[{name}] works("{name}" | {name})')

    def test_atoms_stay_in_their_order(self):
        body = [atom("works", Z, X), atom("open", Z), atom("open", Y), atom("works", Z, X)]
        self.check(WORKS, (0, (join([], *body),)),
                   "[] works(z | x), open(z |), open(y |), works(z | x)")
        self.check(WORKS, (0, (join([], *body[::-1]),)),
                   "[] works(z | x), open(y |), open(z |), works(z | x)")
        self.check(WORKS, (0, (join([], *[atom("open", X)] * 8),)),
                   "[] " + ", ".join(["open(x |)"] * 8))

    def test_several_joins_in_their_order(self):
        first, last = join([X], atom("works", X, Y)), join([val("a")])
        self.check(WORKS, (1, (first, last)), '[x] works(x | y); ["a"]')
        self.check(WORKS, (1, (last, first)), '["a"]; [x] works(x | y)')
        self.check(WORKS, (1, (first, last, first, first)),
                   '[x] works(x | y); ["a"]; [x] works(x | y); [x] works(x | y)')
        self.check(WORKS, (1, (first,) * 8), "; ".join(["[x] works(x | y)"] * 8))

    def test_a_table_called_none(self):
        schema = (("none", 0, 0), ("table", 0, 1))
        self.check(schema, (0, (join([], atom("none"), atom("table", X)),)), "[] none(|), table(| x)")

    def test_two_schemas_by_turns(self):
        question = (0, (join([], atom("t", X, Y)),))
        for _ in range(3):
            self.check((("t", 1, 1),), question, "[] t(x | y)")
            self.check((("t", 2, 0),), question, "[] t(x, y |)")
            self.check((("t", 0, 2),), question, "[] t(| x, y)")


if __name__ == "__main__":
    unittest.main()

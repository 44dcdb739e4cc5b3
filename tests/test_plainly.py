import inspect
import unittest

import plain
from everymending import plainly
from everymending.mendings import count_mendings, mending_at
from everymending.plainly import answers, holds, sure_plainly, valuations
from everymending.questions import check_question, put_row
from plain import Chances, atom, closed, join, store_of, val, var

GREAT = 10**60 - 1
X, Y, Z = var("x"), var("y"), var("z")
WORKS = (("open", 1, 0), ("works", 1, 1))
FORMS = [(0, 0), (0, 1), (0, 2), (1, 0), (1, 1), (1, 1), (1, 2), (2, 0), (2, 1)]


def works(*rows):
    return [("works", row) for row in rows]


def opened(*values):
    return [("open", (value,)) for value in values]


class Interface(unittest.TestCase):
    def test_functions_and_their_arguments(self):
        told = {"valuations": ["store", "join"], "answers": ["store", "question"],
                "holds": ["store", "question"], "sure_plainly": ["schema", "store", "question"]}
        for name, arguments in told.items():
            function = getattr(plainly, name)
            self.assertEqual(function.__module__, "everymending.plainly")
            self.assertEqual(list(inspect.signature(function).parameters), arguments)

    def test_kinds_of_what_is_returned(self):
        store = store_of(*works((1, "a")))
        found = valuations(store, join([], atom("works", X, Y)))
        self.assertIs(type(found), list)
        self.assertEqual([type(part) for part in (found[0], found[0][0])], [tuple] * 2)
        question = (1, (join([X], atom("works", X, Y)),))
        for rows in [answers(store, question), sure_plainly(WORKS, store, question)]:
            self.assertEqual(rows, ((1,),))
            self.assertEqual([type(part) for part in (rows, rows[0])], [tuple] * 2)
        self.assertIs(holds(store, closed([atom("open", X)])), False)
        self.assertIs(holds(store, closed([atom("works", X, Y)])), True)


class Valuations(unittest.TestCase):
    def check(self, store, body, *found):
        self.assertEqual(valuations(store, join([], *body)), list(found))

    def test_joins_without_atoms(self):
        for store in [(), store_of(*works((1, 2)))]:
            self.check(store, [], ())

    def test_the_empty_store(self):
        self.check((), [atom("works", X, Y)])
        self.check((), [atom("works", val(1), val(2))])
        self.check((), [atom("rain")])

    def test_tables_without_columns(self):
        self.check((("rain", ()),), [atom("rain")], ())
        self.check((("rain", ()),), [atom("rain"), atom("rain")], ())
        self.check((("snow", ()),), [atom("rain")])
        store = store_of(("rain", ()), *works((1, 2)))
        self.check(store, [atom("rain"), atom("works", X, Y)], (("x", 1), ("y", 2)))

    def test_one_atom(self):
        store = store_of(*works((1, 2), ("ann", 1), (1, "bar")))
        self.check(store, [atom("works", X, Y)], (("x", 1), ("y", 2)), (("x", 1), ("y", "bar")),
                   (("x", "ann"), ("y", 1)))
        self.check(store, [atom("works", Y, X)], (("x", 1), ("y", "ann")), (("x", 2), ("y", 1)),
                   (("x", "bar"), ("y", 1)))
        self.check(store, [atom("works", val(1), X)], (("x", 2),), (("x", "bar"),))
        self.check(store, [atom("works", val("ann"), val(1))], ())
        self.check(store, [atom("works", val("ann"), val(2))])
        self.check(store, [atom("works", val("x"), Y)])

    def test_a_variable_that_stands_twice(self):
        store = store_of(*works((1, 2), (2, 2), ("a", "a"), ("a", "b")))
        self.check(store, [atom("works", X, X)], (("x", 2),), (("x", "a"),))
        self.check(store, [atom("works", X, Y), atom("works", Y, X)],
                   (("x", 2), ("y", 2)), (("x", "a"), ("y", "a")))

    def test_a_value_that_stands_twice(self):
        store = store_of(("t", (1, 1, 2)), ("t", (1, 2, 2)), ("t", (1, 1, "a")))
        self.check(store, [atom("t", val(1), val(1), X)], (("x", 2),), (("x", "a"),))
        self.check(store, [atom("t", X, val(1), val(1))])
        self.check(store, [atom("t", val(1), X, X)], (("x", 2),))

    def test_several_atoms(self):
        store = store_of(*works(("ann", "bar"), ("ann", "shop"), ("bob", "bar")), *opened("bar", 3))
        self.check(store, [atom("open", Y), atom("works", X, Y)],
                   (("x", "ann"), ("y", "bar")), (("x", "bob"), ("y", "bar")))
        self.check(store, [atom("works", X, Y), atom("works", Z, Y), atom("open", Y)],
                   *[(("x", x), ("y", "bar"), ("z", z)) for x in ("ann", "bob") for z in ("ann", "bob")])
        self.check(store, [atom("open", X), atom("open", Y)],
                   *[(("x", x), ("y", y)) for x in (3, "bar") for y in (3, "bar")])

    def test_the_order_of_valuations(self):
        values = [-GREAT, -10, -9, -1, 0, 9, 10, 2**70, GREAT, "a", "aa", "ab", "b", "z"]
        store = store_of(*opened(*values))
        self.check(store, [atom("open", X)], *[(("x", value),) for value in values])
        self.check(store, [atom("open", Y), atom("open", X)],
                   *[(("x", x), ("y", y)) for x in values for y in values])

    def test_the_order_of_variables(self):
        self.check(store_of(("t", (1, 2, 3, 4))), [atom("t", var("b"), var("ab"), var("a"), var("aa"))],
                   (("a", 3), ("aa", 4), ("ab", 2), ("b", 1)))

    def test_words_as_names_and_variables_and_values(self):
        self.check(store_of(("table", ("none", "table"))), [atom("table", var("none"), var("table"))],
                   (("none", "none"), ("table", "table")))

    def test_variables_of_the_head(self):
        store = store_of(*works((1, 2)))
        self.assertEqual(valuations(store, join([Y, val(7), Y], atom("works", X, Y))),
                         [(("x", 1), ("y", 2))])

    def test_made_up_cases(self):
        chances = Chances(3)
        for _ in range(500):
            schema = chances.schema(FORMS, 4)
            values = chances.pick([[1, 2], [1, 2, "a"], ["x", "y", "ab"]])
            store = chances.store(schema, chances.below(15), values)
            body = chances.body(schema, chances.below(5), ["x", "y", "z", "u"], values)
            found = valuations(store, ((), body))
            told = [tuple(sorted(one.items())) for one in plain.valuations(store, body)]
            self.assertEqual(found, sorted(told, key=lambda one: plain.rank([pair[1] for pair in one])))

    def test_later_changes_have_no_effect(self):
        store = store_of(*works((1, 2)))
        found = valuations(store, join([], atom("works", X, Y)))
        found.append("more")
        self.assertEqual(len(valuations(store, join([], atom("works", X, Y)))), 1)


class Answers(unittest.TestCase):
    def test_no_joins(self):
        for width in range(9):
            self.assertEqual(answers(store_of(*works((1, 2))), (width, ())), ())

    def test_heads(self):
        store = store_of(*works((1, 2), (2, 1), ("a", 1)))
        for head, rows in [([X], ((1,), (2,), ("a",))), ([Y], ((1,), (2,))),
                           ([Y, X], ((1, 2), (1, "a"), (2, 1))), ([], ((),)), ([val(5)], ((5,),)),
                           ([Y, val("b"), Y], ((1, "b", 1), (2, "b", 2)))]:
            question = (len(head), (join(head, atom("works", X, Y)),))
            check_question(WORKS, question)
            self.assertEqual(answers(store, question), rows)
            self.assertEqual(answers((), question), ())

    def test_several_joins(self):
        store = store_of(*works((1, 2), (3, 1)), *opened(1, 7))
        question = (1, (join([X], atom("open", X)), join([Y], atom("works", X, Y)), join([val(0)]),
                        join([val("no")], atom("open", val(8)))))
        self.assertEqual(answers(store, question), ((0,), (1,), (2,), (7,)))

    def test_the_order_of_rows(self):
        values = [-GREAT, -10, -9, 0, 9, 10, GREAT, "a", "aa", "b"]
        store = store_of(*opened(*values[::-1]))
        question = (2, (join([X, Y], atom("open", X), atom("open", Y)),))
        self.assertEqual(answers(store, question), tuple([(x, y) for x in values for y in values]))

    def test_made_up_cases(self):
        chances = Chances(4)
        for _ in range(300):
            schema = chances.schema(FORMS, 4)
            store = chances.store(schema, chances.below(15), [1, 2, "a"])
            width = chances.below(4)
            joins = []
            for _ in range(chances.below(4)):
                body = chances.body(schema, chances.below(5), ["x", "y", "z", "u"], [1, 2, "a"])
                terms = [term for _, inside in body for term in inside] + [val(1)]
                joins.append((tuple([chances.pick(terms) for _ in range(width)]), body))
            question = (width, tuple(joins))
            check_question(schema, question)
            self.assertEqual(answers(store, question), plain.answers(store, question))

    def test_many_valuations_with_few_rows(self):
        # 25 ** 8 valuations.
        names = "abcdefgh"
        store = store_of(*[(name, (value,)) for name in names for value in range(25)])
        body = [atom(name, var(name)) for name in names]
        self.assertEqual(answers(store, (1, (join([var("d")], *body),))),
                         tuple([(value,) for value in range(25)]))
        self.assertEqual(answers(store, (1, (join([val(3)], *body),))), ((3,),))
        self.assertEqual(answers(store, (1, (join([var("a")], *body, atom("x", X)),))), ())


class Holds(unittest.TestCase):
    def test_no_joins(self):
        self.assertIs(holds((), closed()), False)
        self.assertIs(holds(store_of(*works((1, 2))), closed()), False)

    def test_joins_without_atoms(self):
        self.assertIs(holds((), closed([])), True)
        self.assertIs(holds((), closed([atom("rain")], [])), True)

    def test_each_join_is_enough(self):
        store = store_of(*works((1, 2)), *opened(3))
        right, wrong = [atom("works", X, Y)], [atom("works", X, Y), atom("open", Y)]
        for bodies, held in [([right], True), ([wrong], False), ([wrong, wrong], False),
                             ([wrong, right], True), ([right, wrong], True), ([right, right], True)]:
            self.assertIs(holds(store, closed(*bodies)), held)

    def test_rivals_may_both_be_used(self):
        store = store_of(*works((1, 2), (1, 3)))
        question = closed([atom("works", X, val(2)), atom("works", X, val(3))])
        self.assertIs(holds(store, question), True)
        self.assertIs(holds(store[:1], question), False)

    def test_stores_with_very_many_mendings(self):
        store = store_of(*works(*[(at, other) for at in range(90) for other in (at + 1, at + 2)]))
        chain = [atom("works", var("abcdefghi"[at]), var("abcdefghi"[at + 1])) for at in range(8)]
        self.assertIs(holds(store, closed(chain)), True)
        self.assertIs(holds(store, closed(chain[:-1] + [atom("works", var("h"), var("a"))])), False)
        self.assertEqual(len(answers(store, (1, (join([var("a")], *chain),)))), 83)

    def test_tables_that_fit_nowhere_together(self):
        names = "abcdefgh"
        store = store_of(*[(name, (value,)) for name in names[:7] for value in range(25)])
        hub = atom("h", *[var(name) for name in names[:7]])
        question = closed([atom(name, var(name)) for name in names[:7]] + [hub])
        self.assertIs(holds(store, question), False)
        self.assertIs(holds(store + (("h", (25,) * 7),), question), False)
        self.assertIs(holds(store + (("h", (24,) * 7),), question), True)


class SurePlainly(unittest.TestCase):
    def test_the_empty_store(self):
        self.assertEqual(sure_plainly(WORKS, (), (1, (join([X], atom("open", X)),))), ())
        self.assertEqual(sure_plainly(WORKS, (), (1, (join([val(1)]), join([val(0)])))), ((0,), (1,)))
        self.assertEqual(sure_plainly((), (), closed()), ())
        self.assertEqual(sure_plainly((), (), closed([])), ((),))

    def test_the_examples(self):
        question = (1, (join([X], atom("works", X, Y), atom("open", Y)),))
        rows = works(("ann", "bar"), ("ann", "shop"))
        self.assertEqual(sure_plainly(WORKS, store_of(*rows, *opened("bar", "shop")), question),
                         (("ann",),))
        self.assertEqual(sure_plainly(WORKS, store_of(*rows, *opened("bar")), question), ())

    def test_joins_that_are_sure_together(self):
        store = store_of(*works((1, 2), (1, 3)))
        joins = [join([], atom("works", X, val(2))), join([], atom("works", X, val(3)))]
        self.assertEqual(sure_plainly(WORKS, store, (0, tuple(joins))), ((),))
        self.assertEqual(sure_plainly(WORKS, store, (0, (joins[0],))), ())

    def test_the_order_of_rows(self):
        store = store_of(*works((9, 1), (10, 1), (-9, 1), (-10, 1), ("b", 1), ("aa", 1), ("a", 2)))
        self.assertEqual(sure_plainly(WORKS, store, (1, (join([X], atom("works", X, Y)),))),
                         ((-10,), (-9,), (9,), (10,), ("a",), ("aa",), ("b",)))

    def test_made_up_cases(self):
        chances = Chances(5)
        seen = {}
        while len(seen) < 4 or sum(seen.values()) < 200:
            schema = chances.schema(FORMS, 4)
            store = chances.store(schema, chances.below(12), [1, 2, "a"])
            if plain.number_of_mendings(schema, store) > 200:
                continue
            width = chances.below(3)
            joins = []
            for _ in range(chances.below(4)):
                body = chances.body(schema, chances.below(4), ["x", "y", "z"], [1, 2, "a"])
                terms = [term for _, inside in body for term in inside] + [val(1)]
                joins.append((tuple([chances.pick(terms) for _ in range(width)]), body))
            question = (width, tuple(joins))
            rows = plain.sure(schema, store, question)
            self.assertEqual(sure_plainly(schema, store, question), rows)
            possible = {row for mending in plain.mendings(schema, store)
                        for row in plain.answers(mending, question)}
            for row in possible:
                # [16] a row is sure exactly if the closed question is.
                put = put_row(question, row)
                self.assertEqual(sure_plainly(schema, store, put), ((),) if row in rows else ())
            seen[min(len(rows), 3)] = seen.get(min(len(rows), 3), 0) + 1

    def test_all_mendings_are_looked_at(self):
        # The only mending in which the row does not answer may be any of them.
        schema = (("a", 1, 1), ("b", 1, 1), ("c", 1, 1))
        store = store_of(*[(name, (key, rest)) for name in "abc" for key in (1, 2) for rest in (1, 2)])
        for number in range(count_mendings(schema, store)):
            bad = mending_at(schema, store, number)
            joins = [join([], atom(name, *[val(value) for value in row]))
                     for name, row in store if (name, row) not in bad]
            question = (0, tuple(joins))
            self.assertEqual(sure_plainly(schema, store, question), ())
            more = (0, tuple(joins[:-1]) + (join([], *[atom(name, *[val(v) for v in row])
                                                       for name, row in bad]), joins[-1]))
            self.assertEqual(sure_plainly(schema, store, more), ((),))


if __name__ == "__main__":
    unittest.main()

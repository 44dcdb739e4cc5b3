import inspect
import unittest

import plain
from everymending import attacks
from everymending.attacks import attacked_by, attacks_of, closure_of, plan_of, ring_of
from everymending.questions import check_question
from everymending.reading import read_question
from plain import Chances, atom, join, val, var

X, Y, Z, U = var("x"), var("y"), var("z"), var("u")
PAIRS = (("p", 1, 1), ("q", 1, 1), ("r", 1, 1), ("s", 1, 1))
FORMS = [(0, 0), (0, 1), (0, 2), (1, 0), (1, 1), (1, 1), (1, 2), (2, 0), (2, 1)]


def read(schema, text):
    return read_question(schema, text)[1][0]


class Interface(unittest.TestCase):
    def test_functions_and_their_arguments(self):
        stage = ["schema", "join", "atoms", "index", "bound"]
        told = {"closure_of": stage, "attacked_by": stage,
                "attacks_of": ["schema", "join", "atoms", "bound"],
                "plan_of": ["schema", "join"], "ring_of": ["schema", "join"]}
        for name, arguments in told.items():
            function = getattr(attacks, name)
            self.assertEqual(function.__module__, "everymending.attacks")
            self.assertEqual(list(inspect.signature(function).parameters), arguments)

    def test_kinds_of_what_is_returned(self):
        two = join([], atom("p", X, Y), atom("q", Y, X))
        for found in [closure_of(PAIRS, two, (0, 1), 0, ()), attacked_by(PAIRS, two, (0, 1), 0, ()),
                      attacks_of(PAIRS, two, (0, 1), ()), attacks_of(PAIRS, two, (0, 1), ())[0],
                      plan_of(PAIRS, join([], atom("p", X, Y))), ring_of(PAIRS, two), ring_of(PAIRS, two)[0],
                      ring_of(PAIRS, two)[1]]:
            self.assertIs(type(found), tuple)


class Closures(unittest.TestCase):
    def check(self, schema, text, atoms, index, bound, *closure):
        self.assertEqual(closure_of(schema, read(schema, text), atoms, index, bound), closure)

    def test_the_key_of_the_atom(self):
        self.check(PAIRS, "[] p(x | y)", (0,), 0, (), "x")
        self.check(PAIRS, '[] p("a" | y)', (0,), 0, ())
        self.check((("p", 0, 2),), "[] p(| x, y)", (0,), 0, ())
        self.check((("p", 2, 1),), "[] p(y, x | z)", (0,), 0, (), "x", "y")
        self.check((("p", 2, 0),), "[] p(x, x |)", (0,), 0, (), "x")

    def test_keys_of_the_others(self):
        text = "[] p(x | y), q(y | z), r(z | u)"
        self.check(PAIRS, text, (0, 1, 2), 0, (), "x")
        self.check(PAIRS, text, (0, 1, 2), 1, (), "y")
        self.check(PAIRS, text, (0, 1, 2), 2, (), "z")
        self.check(PAIRS, "[] p(x | y), q(x | y)", (0, 1), 0, (), "x", "y")
        self.check(PAIRS, "[] p(x | y), q(x | z), r(z | u), s(u | y)", (0, 1, 2, 3), 0, (),
                   "u", "x", "y", "z")

    def test_atoms_that_get_their_turn_late(self):
        self.check(PAIRS, "[] p(x | y), r(z | u), q(x | z), s(w | y)", (0, 1, 2, 3), 0, (), "u", "x", "z")
        self.check(PAIRS, "[] r(z | u), q(y | z), s(x | y), p(x | 1)", (0, 1, 2, 3), 3, (),
                   "u", "x", "y", "z")

    def test_the_atom_itself_gives_only_its_key(self):
        self.check(PAIRS, "[] p(x | y), q(y | x)", (0, 1), 0, (), "x")
        self.check(PAIRS, "[] p(1 | y), q(y | x)", (0, 1), 0, ())
        self.check(PAIRS, "[] p(x | y), q(1 | z)", (0, 1), 0, (), "x", "z")

    def test_only_the_named_atoms(self):
        text = "[] p(x | y), q(x | y), r(x | z)"
        self.check(PAIRS, text, (0, 1), 0, (), "x", "y")
        self.check(PAIRS, text, (0, 2), 0, (), "x", "z")
        self.check(PAIRS, text, (0,), 0, (), "x")
        self.check(PAIRS, text, (2,), 2, (), "x")

    def test_bound_variables(self):
        text = "[] p(x | y), q(y | z), r(z | u)"
        self.check(PAIRS, text, (0, 1, 2), 0, ("x",))
        self.check(PAIRS, text, (0, 1, 2), 0, ("y",), "u", "x", "z")
        self.check(PAIRS, text, (0, 1, 2), 0, ("u", "x", "y", "z"))
        self.check(PAIRS, text, (1, 2), 1, ("x", "y"), )
        self.check(PAIRS, text, (1, 2), 2, ("y",), "z")

    def test_words_as_names_and_variables(self):
        schema = (("none", 1, 1), ("table", 1, 1))
        self.check(schema, "[] table(none | table), none(none | ab)", (0, 1), 0, (), "ab", "none")


class Attacked(unittest.TestCase):
    def check(self, schema, text, atoms, index, bound, *variables):
        self.assertEqual(attacked_by(schema, read(schema, text), atoms, index, bound), variables)

    def test_one_atom(self):
        self.check(PAIRS, "[] p(x | y)", (0,), 0, (), "y")
        self.check(PAIRS, "[] p(x | x)", (0,), 0, ())
        self.check(PAIRS, "[] p(x | 1)", (0,), 0, ())
        self.check((("p", 0, 2),), "[] p(| y, x)", (0,), 0, (), "x", "y")
        self.check((("p", 2, 0),), "[] p(y, x |)", (0,), 0, ())

    def test_sequences(self):
        text = "[] p(x | y), q(y | z), r(z | u)"
        self.check(PAIRS, text, (0, 1, 2), 0, (), "u", "y", "z")
        self.check(PAIRS, text, (0, 1, 2), 1, (), "u", "z")
        self.check(PAIRS, text, (0, 1, 2), 2, (), "u")
        self.check(PAIRS, text, (0, 2), 0, (), "y")
        self.check(PAIRS, text, (0, 1), 0, (), "y", "z")

    def test_sequences_do_not_go_through_the_closure(self):
        self.check(PAIRS, "[] p(x | y), q(x | y), r(y | z)", (0, 1, 2), 0, ())
        self.check(PAIRS, "[] p(x | y), q(z | y), r(x | z), s(z | u)", (0, 1, 2, 3), 0, ())
        self.check(PAIRS, "[] p(x | y), q(u | y), r(u | z)", (0, 1, 2), 0, (), "u", "y", "z")

    def test_bound_variables(self):
        text = "[] p(x | y), q(y | z), r(z | u)"
        self.check(PAIRS, text, (0, 1, 2), 0, ("y",))
        self.check(PAIRS, text, (0, 1, 2), 0, ("x",), "u", "y", "z")
        self.check(PAIRS, text, (0, 1, 2), 0, ("z",), "y")
        self.check(PAIRS, text, (1, 2), 1, ("x", "y"), "u", "z")
        self.check(PAIRS, text, (0, 1, 2), 0, ("u", "x", "y", "z"))


class Attacks(unittest.TestCase):
    def check(self, schema, text, atoms, bound, *pairs):
        self.assertEqual(attacks_of(schema, read(schema, text), atoms, bound), pairs)

    def test_no_atoms(self):
        self.check(PAIRS, "[]", (), ())
        self.check(PAIRS, "[] p(x | y)", (), ())
        self.check(PAIRS, "[] p(x | y)", (), ("x", "y"))

    def test_one_atom_attacks_no_other(self):
        self.check(PAIRS, "[] p(x | y)", (0,), ())
        self.check((("p", 0, 2),), "[] p(| x, y)", (0,), ())

    def test_two_atoms(self):
        self.check(PAIRS, "[] p(x | y), q(y | x)", (0, 1), (), (0, 1), (1, 0))
        self.check(PAIRS, "[] p(x | y), q(y | z)", (0, 1), (), (0, 1))
        self.check(PAIRS, "[] p(y | z), q(x | y)", (0, 1), (), (1, 0))
        self.check(PAIRS, "[] p(x | z), q(y | z)", (0, 1), (), (0, 1), (1, 0))
        self.check(PAIRS, "[] p(x | y), q(x | y)", (0, 1), ())
        self.check(PAIRS, "[] p(x | y), q(z | u)", (0, 1), ())

    def test_several_atoms(self):
        self.check(PAIRS, "[] r(z | u), p(x | y), q(y | z)", (0, 1, 2), (), (1, 0), (1, 2), (2, 0))
        self.check(PAIRS, "[] r(z | u), p(x | y), q(y | z)", (0, 1), ())
        self.check(PAIRS, "[] r(z | u), p(x | y), q(y | z)", (0, 2), (), (2, 0))
        self.check(PAIRS, "[] r(z | u), p(x | y), q(y | z)", (0, 1, 2), ("z",), (1, 2))

    def test_tables_without_key_columns(self):
        schema = (("a", 0, 1), ("b", 0, 1), ("c", 1, 1))
        self.check(schema, "[] a(| x), b(| x)", (0, 1), ())
        self.check(schema, "[] a(| x), c(x | y)", (0, 1), (), (0, 1))
        self.check(schema, "[] a(| x), c(y | x)", (0, 1), (), (0, 1))

    def test_the_head_does_not_matter(self):
        body = [atom("p", X, Y), atom("q", Y, X)]
        for head in [[], [X], [Y, X, val(1)]]:
            whole = join(head, *body)
            self.assertEqual(closure_of(PAIRS, whole, (0, 1), 0, ()), ("x",))
            self.assertEqual(attacked_by(PAIRS, whole, (0, 1), 0, ()), ("y",))
            self.assertEqual(attacks_of(PAIRS, whole, (0, 1), ()), ((0, 1), (1, 0)))

    def test_made_up_cases(self):
        chances = Chances(6)
        told = 0
        for _ in range(600):
            schema = chances.schema(FORMS, 5)
            body = chances.simple_body(schema, ["x", "y", "z", "u"], [1, "a"])
            check_question(schema, (0, (((), body),)))
            atoms = tuple([at for at in range(len(body)) if chances.below(4)])
            inside = sorted({name for _, terms in body for name in plain.variables(terms)})
            bound = tuple([name for name in inside if not chances.below(4)])
            for index in atoms:
                told += 1
                self.assertEqual(closure_of(schema, ((), body), atoms, index, bound),
                                 plain.closure(schema, body, atoms, index, bound))
                self.assertEqual(attacked_by(schema, ((), body), atoms, index, bound),
                                 plain.attacked(schema, body, atoms, index, bound))
            self.assertEqual(attacks_of(schema, ((), body), atoms, bound),
                             plain.attacks(schema, body, atoms, bound))
        self.assertGreater(told, 500)


class Plans(unittest.TestCase):
    def check(self, schema, text, plan):
        self.assertEqual(plan_of(schema, read(schema, text)), plan)

    def test_the_examples(self):
        self.check((("open", 1, 0), ("works", 1, 1)), "[] open(y |), works(x | y)", (1, 0))
        self.check((("r", 1, 1), ("s", 1, 1)), "[] r(x | y), s(y | x)", None)

    def test_the_empty_join(self):
        self.check((), "[]", ())
        self.check(PAIRS, "[]", ())

    def test_one_atom(self):
        self.check(PAIRS, "[] p(x | y)", (0,))
        self.check(PAIRS, "[] p(x | x)", (0,))
        self.check((("rain", 0, 0),), "[] rain(|)", (0,))

    def test_the_first_in_the_order_of_the_body(self):
        self.check(PAIRS, "[] p(x | 1), q(y | 1), r(z | 1)", (0, 1, 2))
        self.check(PAIRS, "[] r(z | 1), q(y | 1), p(x | 1)", (0, 1, 2))
        self.check(PAIRS, "[] p(y | z), s(u | 1), q(x | y)", (1, 2, 0))
        self.check(PAIRS, "[] r(z | u), q(y | z), p(x | y)", (2, 1, 0))
        self.check(PAIRS, "[] r(z | u), p(x | y), q(y | z)", (1, 2, 0))

    def test_an_atom_gets_its_turn_when_it_is_attacked_no_longer(self):
        # p is attacked by q alone, so it comes next, before r and s, which never were attacked.
        self.check(PAIRS, "[] p(y | z), q(x | y), r(u | 1), s(w | 1)", (1, 0, 2, 3))

    def test_joins_that_are_not_simple(self):
        self.check(PAIRS, "[] p(x | y), p(x | y)", None)
        self.check(PAIRS, "[] p(x | y), q(1 | 2), p(1 | 2)", None)
        self.check((("rain", 0, 0),), "[] rain(|), rain(|)", None)

    def test_bound_variables_break_attacks(self):
        schema = (("a", 0, 1), ("p", 1, 1), ("q", 1, 1))
        self.check(schema, "[] p(x | y), q(y | x)", None)
        self.check(schema, "[] p(x | y), q(y | x), a(| x)", (2, 0, 1))
        self.check(schema, "[] a(| y), p(x | y), q(y | x)", (0, 2, 1))

    def test_eight_atoms(self):
        schema = tuple([(letter, 1, 1) for letter in "abcdefgh"])
        chain = ", ".join([f"{letter}({letter} | {after})" for letter, after in zip("hgfedcba", "ihgfedcb")])
        self.check(schema, "[] " + chain, (7, 6, 5, 4, 3, 2, 1, 0))
        ring = ", ".join([f"{letter}({letter} | {after})" for letter, after in zip("abcdefgh", "bcdefgha")])
        self.check(schema, "[] " + ring, None)

    def test_it_depends_on_the_keys(self):
        for key, rest, plan in [(1, 1, None), (2, 0, (0, 1)), (0, 2, (0, 1))]:
            schema = (("p", key, rest), ("q", key, rest))
            body = (atom("p", X, Y), atom("q", Y, X))
            self.assertEqual(plan_of(schema, ((), body)), plan)

    def test_made_up_cases(self):
        chances = Chances(7)
        seen = {"plan": 0, "ring": 0, "not simple": 0}
        while min(seen.values()) < 60:
            schema = chances.schema(FORMS, 5)
            names = ["x", "y", "z", "u", "v"][:2 + chances.below(4)]
            if chances.below(3):
                body = chances.simple_body(schema, names, [1, "a"])
            else:
                body = chances.body(schema, 2 + chances.below(2), names, [1, "a"])
            plan = plain.plan(schema, body)
            self.assertEqual(plan_of(schema, ((), body)), plan)
            if not plain.is_simple(body):
                seen["not simple"] += 1
                continue
            seen["ring" if plan is None else "plan"] += 1
            ring = ring_of(schema, ((), body))
            if plan is not None:
                self.assertIsNone(ring)
                continue
            _, left, bound = plain.stages(schema, body)
            pairs = plain.attacks(schema, body, left, bound)
            least = min([(i, j) for i, j in pairs if i < j and (j, i) in pairs])
            self.assertEqual(ring, (left, bound) + least)


class Rings(unittest.TestCase):
    def check(self, schema, text, ring):
        self.assertEqual(ring_of(schema, read(schema, text)), ring)

    def test_the_example(self):
        self.check((("r", 1, 1), ("s", 1, 1)), "[] r(x | y), s(y | x)", ((0, 1), (), 0, 1))

    def test_joins_with_a_plan(self):
        for text in ["[]", "[] p(x | y)", "[] p(x | y), q(y | z)", "[] p(x | y), q(x | y)"]:
            self.check(PAIRS, text, None)

    def test_the_atoms_that_are_left_and_the_bound_variables(self):
        self.check(PAIRS, "[] p(x | y), s(u | 1), q(y | x)", ((0, 2), ("u",), 0, 2))
        self.check(PAIRS, "[] s(u | 1), p(x | z), r(z | w), q(y | z)", ((1, 2, 3), ("u",), 1, 3))
        self.check((("a", 0, 2),) + PAIRS, "[] p(x | y), a(| z, v), q(y | x)", ((0, 2), ("v", "z"), 0, 2))

    def test_the_least_pair(self):
        self.check(PAIRS, "[] p(x | u), q(y | u), r(z | u)", ((0, 1, 2), (), 0, 1))
        self.check(PAIRS, "[] s(u | v), p(x | u), q(y | u)", ((0, 1, 2), (), 1, 2))


if __name__ == "__main__":
    unittest.main()

import inspect
import unittest

import plain
from everymending import rewriting
from everymending.errors import MendError, NoPlan
from everymending.planning import reckon
from everymending.reading import read_question
from everymending.rewriting import sentence_of
from everymending.sentence_texts import read_sentence, write_sentence
from everymending.sentences import is_sentence, sentence_holds
from plain import Chances, atom, join, store_of, val, var

X, Y, Z = var("x"), var("y"), var("z")
WORKS = (("open", 1, 0), ("works", 1, 1))
CHAIN = (("r", 1, 1), ("s", 1, 1), ("t", 1, 0))
FORMS = [(0, 0), (0, 1), (0, 2), (1, 0), (1, 1), (1, 1), (1, 2), (2, 0), (2, 1), (1, 3)]


def parts_of(sentence):
    if sentence[0] in ("fact", "same"):
        return ()
    return sentence[1] if sentence[0] in ("and", "or") else sentence[-1:]


def many_parts(sentence):
    return 1 + sum(many_parts(part) for part in parts_of(sentence))


def many_inside(sentence):
    """How many "some" and "each" stand inside each other."""
    return (sentence[0] in ("some", "each")) + max([many_inside(part) for part in parts_of(sentence)], default=0)


class Interface(unittest.TestCase):
    def test_functions_and_their_arguments(self):
        self.assertEqual(rewriting.sentence_of.__module__, "everymending.rewriting")
        self.assertEqual(list(inspect.signature(sentence_of).parameters), ["schema", "join"])


class Rewritten(unittest.TestCase):
    def sentence(self, schema, one):
        """The sentence, with what is promised of it without a store."""
        sentence = sentence_of(schema, one)
        terms = [len(terms) for _, terms in one[1]]
        if len(terms) <= 3 and all(many <= 4 for many in terms):
            self.assertIs(is_sentence(schema, sentence), True)
            self.assertLessEqual(many_parts(sentence), 200)
            self.assertEqual(read_sentence(schema, write_sentence(schema, sentence)), sentence)
        self.assertLessEqual(many_inside(sentence), 2 * sum(terms))
        return sentence

    def check(self, schema, text, *stores):
        """Looks at all mendings of each store."""
        one = read_question(schema, text)[1][0]
        sentence = self.sentence(schema, one)
        verdicts = {True: 0, False: 0}
        for store in stores:
            verdict = plain.sure(schema, store, (0, (one,))) == ((),)
            self.assertIs(sentence_holds(schema, store, sentence), verdict, store)
            self.assertIs(plain.sentence_holds(store, sentence), verdict, store)
            verdicts[verdict] += 1
        return (verdicts[True], verdicts[False])

    def made_up_stores(self, schema, values, most=10):
        chances = Chances(61)
        found = [()]
        while len(found) < 60:
            store = chances.store(schema, chances.below(most), values)
            if plain.number_of_mendings(schema, store) <= 30:
                found.append(store)
        return found

    def test_joins_without_atoms(self):
        for schema in [(), WORKS]:
            sentence = self.sentence(schema, join([]))
            for store in [(), store_of(("works", (1, 2)), ("works", (1, 3)))]:
                self.assertIs(sentence_holds(schema, store if schema else (), sentence), True)

    def test_joins_without_a_plan(self):
        ring = (("r", 1, 1), ("s", 1, 1))
        for schema, text in [(ring, "[] r(x | y), s(y | x)"), (ring, "[] r(x | y), r(y | x)"),
                             (ring, "[] r(x | y), r(x | y)"),
                             (ring, "[] r(x | z), s(y | z)")]:
            with self.assertRaises(NoPlan) as caught:
                sentence_of(schema, read_question(schema, text)[1][0])
            self.assertIsInstance(caught.exception, MendError)

    def test_one_atom(self):
        stores = self.made_up_stores(WORKS, [1, 2, "a"])
        for text in ["[] works(x | y)", "[] works(x | x)", "[] works(1 | x)", "[] works(x | 1)", '[] works("a" | 2)',
                     "[] open(x |)",
                     "[] open(2 |)"]:
            sure, failing = self.check(WORKS, text, *stores)
            self.assertTrue(sure > 0 and failing > 0)

    def test_several_atoms(self):
        stores = self.made_up_stores(CHAIN, [1, 2, 3])
        for text in ["[] r(x | y), s(y | z)", "[] r(x | y), s(y | z), t(z |)", "[] t(y |), r(x | y)",
                     "[] r(x | y), s(z | u)", "[] t(x |), s(x | 2)",
                     "[] s(2 | y), r(x | y)", "[] r(x | x), s(x | x), t(x |)", "[] r(1 | y), s(2 | y)"]:
            self.assertGreater(min(self.check(CHAIN, text, *stores)), 0)

    def test_tables_without_key_columns_and_without_other_columns(self):
        schema = (("best", 0, 2), ("rain", 0, 0), ("seen", 2, 0))
        stores = self.made_up_stores(schema, [1, 2])
        for text in ["[] rain(|)", "[] best(| x, y)", "[] best(| x, x)", "[] best(| x, 1)",
                     "[] best(| x, y), seen(x, y |), rain(|)",
                     "[] seen(x, x |)", "[] best(| x, x), seen(x, x |)"]:
            self.assertGreater(min(self.check(schema, text, *stores)), 0)

    def test_variables_that_stand_several_times(self):
        schema = (("far", 2, 2), ("near", 1, 2))
        stores = self.made_up_stores(schema, [1, 2], 12)
        for text in ["[] far(x, y | x, z)", "[] far(x, x | y, y)", "[] far(x, 1 | 2, y)",
                     "[] near(x | y, y), far(y, y | z, z)",
                     "[] near(x | y, z), far(y, z | z, u)", "[] near(x | 1, x)", "[] near(1 | x, x), far(x, 1 | x, x)"]:
            self.check(schema, text, *stores)

    def test_names_that_a_sentence_binds(self):
        # The sentence binds words that the join does not have; these are the first ones that offer.
        many = 0
        for one, other in [("a", "b"), ("b", "a"), ("c", "a"), ("aa", "z")]:
            schema = tuple(sorted([(one, 1, 2), (other, 1, 1), ("far", 2, 2)]))
            stores = self.made_up_stores(schema, [1, 2])
            for x, y, z in [("a", "b", "c"), ("c", "b", "a"), ("b", "c", "a"), ("d", "a", "b"), (one, other, "x"),
                            ("x", one, other)]:
                for text in [f"[] {one}({x} | {y}, {y})", f"[] {one}({x} | {x}, 1), {other}({x} | {z})",
                             f"[] {one}({x} | {y}, 2), {other}({y} | {y})",
                             f"[] far({x}, {x} | {y}, {x}), {one}({y} | {x}, {y})",
                             f"[] {other}({x} | {y}), {one}({y} | {z}, {z})"]:
                    if plain.plan(schema, read_question(schema, text)[1][0][1]) is not None:
                        self.check(schema, text, *stores[:25])
                        many += 1
        self.assertGreater(many, 50)

    def test_values_of_the_join_that_the_store_does_not_have(self):
        for text in ["[] works(x | 7)", "[] works(7 | x)", '[] works("b" | 7), open("b" |)']:
            self.check(WORKS, text, (), store_of(("works", (1, 2))), store_of(("works", (7, 7)), ("works", (8, 7)),
                                                                              ("works", (8, 9))))

    def test_made_up_cases(self):
        chances = Chances(62)
        seen = {"sure": 0, "fails": 0, "no plan": 0}
        while min(seen["sure"], seen["fails"], 10 * seen["no plan"]) < 250:
            schema = chances.schema(FORMS, 4)
            values = chances.pick([[1, 2], [1, 2, "a"]])
            one = join([], *chances.simple_body(schema, ["a", "b", "c", "x"], values))
            if plain.plan(schema, one[1]) is None:
                with self.assertRaises(NoPlan):
                    sentence_of(schema, one)
                seen["no plan"] += 1
                continue
            sentence = self.sentence(schema, one)
            for _ in range(5):
                store = chances.store(schema, chances.below(14), values)
                if plain.number_of_mendings(schema, store) <= 60:
                    verdict = not plain.failing(schema, store, (0, (one,)))
                    self.assertIs(sentence_holds(schema, store, sentence), verdict, (store, sentence))
                    seen["sure" if verdict else "fails"] += 1

    def test_the_greatest_joins_that_are_asked_for(self):
        chances = Chances(63)
        many = 0
        while many < 150:
            schema = tuple([(name, *chances.pick([(0, 4), (1, 3), (2, 2), (3, 1), (4, 0)])) for name in "rst"])
            one = join([], *chances.simple_body(schema, ["a", "b", "c", "d", "x", "y", "z", "u"], [1, 2]))
            if plain.plan(schema, one[1]) is not None:
                self.sentence(schema, one)
                many += len(one[1]) == 3

    def test_stores_with_very_many_mendings(self):
        one = read_question(CHAIN, "[] r(x | y), s(y | z), t(z |)")[1][0]
        sentence = self.sentence(CHAIN, one)
        facts = [(name, (at, (at + more) % 40)) for name in "rs" for at in range(40) for more in (1, 7)]
        for gone in [(), (3,), tuple(range(0, 40, 7))]:
            store = store_of(*facts, *[("t", (at,)) for at in range(40) if at not in gone])
            self.assertIs(sentence_holds(CHAIN, store, sentence), reckon(CHAIN, store, one)[0] == "sure")
        self.assertIs(sentence_holds(CHAIN, store_of(*facts, ("t", (1,))), sentence), False)


if __name__ == "__main__":
    unittest.main()

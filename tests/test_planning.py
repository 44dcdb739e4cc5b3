import inspect
import unittest

import plain
from everymending import planning
from everymending.attacks import plan_of
from everymending.errors import NoPlan
from everymending.mendings import count_mendings, is_mending
from everymending.planning import judge_paper, reckon
from everymending.plainly import holds
from everymending.questions import check_question
from everymending.reading import read_book, read_question
from plain import Chances, atom, join, store_of, val, var

LETTERS = "abcdefgh"
GREAT = 10**60 - 1
X, Y, Z = var("x"), var("y"), var("z")
WORKS = (("open", 1, 0), ("works", 1, 1))
CHAIN = (("r", 1, 1), ("s", 1, 1), ("t", 1, 0))
FORMS = [(0, 1), (1, 0), (1, 1), (1, 1), (1, 1), (1, 2), (2, 1)]
# Joins without a plan.
NO_PLAN = [(CHAIN, join([], atom("r", X, Y), atom("s", Y, X))),
           (CHAIN, join([], atom("r", X, Z), atom("s", Y, Z))),
           (CHAIN, join([], atom("r", X, Y), atom("r", X, Y))),
           (CHAIN, join([], atom("t", val(1)), atom("t", val(1)))),
           (CHAIN, join([], atom("t", X), atom("r", X, Y), atom("t", X))),
           ((("rain", 0, 0),), join([], atom("rain"), atom("rain")))]


def read(schema, text):
    return read_question(schema, text)[1][0]


class Checked(unittest.TestCase):
    def check_sure(self, schema, store, whole, paper=None):
        found = reckon(schema, store, whole)
        self.assertIs(type(found), tuple)
        self.assertEqual(found[0], "sure")
        if paper is not None:
            self.assertEqual(found[1], paper)
        self.assertIs(judge_paper(schema, store, whole, found[1]), True)
        return found[1]

    def check_fails(self, schema, store, whole):
        found = reckon(schema, store, whole)
        self.assertEqual(found[0], "fails")
        self.assertTrue(is_mending(schema, store, found[1]))
        self.assertFalse(holds(found[1], (0, (whole,))))
        return found[1]


class Interface(unittest.TestCase):
    def test_functions_and_their_arguments(self):
        told = {"reckon": ["schema", "store", "join"],
                "judge_paper": ["schema", "store", "join", "paper"]}
        for name, arguments in told.items():
            function = getattr(planning, name)
            self.assertEqual(function.__module__, "everymending.planning")
            self.assertEqual(list(inspect.signature(function).parameters), arguments)


class JoinsWithoutPlan(unittest.TestCase):
    def test_no_plan(self):
        stores = {CHAIN: [(), store_of(("r", (1, 1))), store_of(("r", (1, 1)), ("r", (1, 2)), ("s", (1, 1)),
                                                               ("t", (1,)))]}
        for schema, whole in NO_PLAN:
            self.assertIsNone(plan_of(schema, whole))
            for store in stores.get(schema, [(), (("rain", ()),)]):
                self.assertRaises(NoPlan, reckon, schema, store, whole)
                for paper in [(), ((1,), ())] + plain.no_tuples(1000):
                    self.assertRaises(NoPlan, judge_paper, schema, store, whole, paper)


class Reckoned(Checked):
    def test_the_examples(self):
        text = 'table open 1 0\ntable works 1 1\nopen("bar" |)\nworks("ann" | "bar")\nworks("ann" | "shop")'
        schema, store = read_book(text)
        whole = read(schema, "[] works(x | y), open(y |)")
        self.assertEqual(reckon(schema, store, whole),
                         ("fails", (("open", ("bar",)), ("works", ("ann", "shop")))))
        schema, store = read_book(text + '\nopen("shop" |)')
        self.check_sure(schema, store, whole, (("ann",), (
            (("ann", "bar"), (("bar",), ((("bar",), ()),))),
            (("ann", "shop"), (("shop",), ((("shop",), ()),))))))

    def test_the_empty_join(self):
        for store in [(), store_of(("works", (1, 2)), ("works", (1, 3)))]:
            self.check_sure(WORKS, store, join([]), ())

    def test_the_empty_store(self):
        for text in ["[] works(x | y)", "[] works(1 | 2)", "[] open(y |), works(x | y)"]:
            self.assertEqual(reckon(WORKS, (), read(WORKS, text)), ("fails", ()))

    def test_one_atom(self):
        store = store_of(("works", (1, 2)), ("works", (1, 3)), ("works", (2, 2)), ("works", ("a", "a")))
        for text, key in [("[] works(x | 2)", (2,)), ("[] works(x | x)", None), ("[] works(1 | x)", (1,)),
                          ("[] works(2 | 2)", (2,)), ('[] works(x | "a")', ("a",))]:
            paper = self.check_sure(WORKS, store, read(WORKS, text))
            self.assertIn(paper[0], [key] if key else [(2,), ("a",)])
        for text in ["[] works(1 | 2)", "[] works(1 | 3)", "[] works(x | 3)", "[] works(3 | x)",
                     '[] works("x" | y)', '[] works(x | "x")']:
            self.check_fails(WORKS, store, read(WORKS, text))

    def test_tables_without_columns(self):
        schema = (("rain", 0, 0), ("snow", 0, 0))
        self.check_sure(schema, (("rain", ()),), read(schema, "[] rain(|)"), ((), (((), ()),)))
        self.check_fails(schema, (("rain", ()),), read(schema, "[] snow(|)"))
        self.check_fails(schema, (("rain", ()),), read(schema, "[] rain(|), snow(|)"))
        self.check_sure(schema, (("rain", ()), ("snow", ())), read(schema, "[] snow(|), rain(|)"),
                        ((), (((), ((), (((), ()),))),)))

    def test_tables_without_key_columns(self):
        schema = (("best", 0, 1), ("open", 1, 0))
        store = store_of(("best", (1,)), ("best", (2,)), ("open", (1,)), ("open", (2,)))
        whole = read(schema, "[] best(| x), open(x |)")
        self.check_sure(schema, store, whole, ((), (((1,), ((1,), (((1,), ()),))),
                                                    ((2,), ((2,), (((2,), ()),))))))
        self.assertEqual(self.check_fails(schema, store[:3], whole), (("best", (2,)), ("open", (1,))))
        self.check_sure(schema, store, read(schema, "[] best(| x)"))
        self.check_fails(schema, store, read(schema, "[] best(| 1)"))

    def test_tables_without_other_columns(self):
        schema = (("a", 2, 0), ("b", 1, 0))
        store = store_of(("a", (1, 2)), ("a", (2, 2)), ("b", (2,)))
        self.check_sure(schema, store, read(schema, "[] b(x |), a(x, x |)"))
        self.check_sure(schema, store, read(schema, "[] a(x, y |), b(y |)"))
        self.check_fails(schema, store, read(schema, "[] a(x, y |), b(1 |)"))

    def test_one_value_for_each_variable(self):
        schema = (("p", 1, 2), ("q", 2, 1))
        store = store_of(("p", (1, 1, 2)), ("p", (1, 2, 2)), ("p", (2, 2, 2)), ("q", (1, 1, 3)), ("q", (1, 2, 1)),
                         ("q", (1, 2, 2)))
        self.check_sure(schema, store, read(schema, "[] p(x | x, y)"))
        self.check_fails(schema, store[:2], read(schema, "[] p(x | y, y)"))
        self.check_sure(schema, store, read(schema, "[] p(x | y, y)"))
        self.check_sure(schema, store, read(schema, "[] q(x, x | y)"))
        self.check_fails(schema, store, read(schema, "[] q(x, y | y)"))
        self.check_fails(schema, store, read(schema, "[] q(x, x | x)"))

    def test_facts_of_other_tables_are_in_the_mending(self):
        store = store_of(("open", (1,)), ("open", (2,)), ("works", (1, 1)), ("works", (1, 2)), ("works", (2, 3)))
        self.assertEqual(len(self.check_fails(WORKS, store, read(WORKS, "[] open(3 |)"))), 4)

    def test_words_as_names_and_great_integers(self):
        schema = (("none", 1, 1), ("table", 1, 1))
        store = store_of(("table", (GREAT, "none")), ("table", (GREAT, "table")), ("none", ("none", -GREAT)),
                         ("none", ("table", -GREAT)))
        whole = read(schema, f"[] table({GREAT} | none), none(none | table)")
        self.check_sure(schema, store, whole)
        self.check_fails(schema, store[1:], whole)

    def test_the_order_of_the_body_gives_the_order_of_the_paper(self):
        store = store_of(("r", (1, 2)), ("s", (3, 4)), ("t", (5,)))
        parts = {"r": ("r(x | y)", (1,), (1, 2)), "s": ("s(z | u)", (3,), (3, 4)), "t": ("t(v |)", (5,), (5,))}
        for order in ["rst", "rts", "srt", "str", "trs", "tsr"]:
            paper = ()
            for name in order[::-1]:
                paper = (parts[name][1], ((parts[name][2], paper),))
            whole = read(CHAIN, "[] " + ", ".join([parts[name][0] for name in order]))
            self.check_sure(CHAIN, store, whole, paper)

    def test_the_key_of_a_paper_suits_the_bound_variables(self):
        store = store_of(("r", (1, 2)), ("s", (1, 9)), ("s", (2, 8)), ("s", (3, 7)))
        self.check_sure(CHAIN, store, read(CHAIN, "[] r(x | y), s(y | z)"),
                        ((1,), (((1, 2), ((2,), (((2, 8), ()),))),)))

    def test_it_fails_though_each_mending_of_a_part_holds(self):
        store = store_of(*[("r", (at, other)) for at in range(3) for other in (0, 1)], ("s", (0, 0)), ("s", (1, 1)),
                         ("t", (0,)))
        self.check_fails(CHAIN, store, read(CHAIN, "[] r(x | y), s(y | z), t(z |)"))
        self.check_sure(CHAIN, store + (("t", (1,)),), read(CHAIN, "[] r(x | y), s(y | z), t(z |)"))

    def test_parts_that_are_sure_but_not_together(self):
        schema = tuple([(letter, 1, 1) for letter in "pqrst"])
        for text in ["[] p(x | y), q(y | z), r(x | u)", "[] r(x | u), p(x | y), q(y | z)",
                     "[] p(x | y), r(x | u), q(y | z)", "[] p(x | y), q(y | z), s(z | v), r(x | u)"]:
            whole = read(schema, text)
            store = [("p", (1, 1)), ("p", (2, 9)), ("q", (1, 1)), ("s", (1, 1)), ("r", (2, 5))]
            self.check_fails(schema, store_of(*store), whole)
            self.check_sure(schema, store_of(*store, ("r", (1, 5)), ("r", (1, 6))), whole)

    def test_several_used_facts_must_be_exchanged(self):
        # Each r leads to its own s, and each s must be the bad one.
        store = store_of(*[("r", (at, at)) for at in range(30)],
                         *[("s", (at, word)) for at in range(30) for word in ("a", "b")], ("t", ("a",)))
        mending = self.check_fails(CHAIN, store, read(CHAIN, "[] r(x | y), s(y | z), t(z |)"))
        self.assertEqual([row for name, row in mending if name == "s"], [(at, "b") for at in range(30)])

    def test_made_up_cases(self):
        chances = Chances(8)
        seen = {"sure": 0, "fails": 0}
        while min(seen.values()) < 300:
            schema = chances.schema(FORMS, 5)
            names = ["x", "y", "z", "u", "v"][:2 + chances.below(4)]
            body = chances.simple_body(schema, names, [1, 2])
            store = chances.store(schema, 4 + chances.below(16), chances.pick([[1, 2], [1, 2, 3], [1, 2, "a"]]))
            if plain.plan(schema, body) is None or plain.number_of_mendings(schema, store) > 300:
                continue
            check_question(schema, (0, (((), body),)))
            bad = plain.failing(schema, store, (0, (((), body),)))
            verdict, found = reckon(schema, store, ((), body))
            if bad:
                self.assertEqual(verdict, "fails")
                self.assertIn(found, bad)
            else:
                self.assertEqual(verdict, "sure")
                self.assertTrue(plain.is_paper(schema, store, body, plain.plan(schema, body), {}, found))
            seen[verdict] += 1


class Papers(unittest.TestCase):
    SMALL = [
        (WORKS, "[] works(x | y), open(y |)",
         store_of(("open", ("bar",)), ("open", ("shop",)), ("works", ("ann", "bar")), ("works", ("ann", "shop")),
                  ("works", ("bob", "bar")))),
        (CHAIN, "[] s(y | z), r(x | y), t(z |)",
         store_of(("r", (1, 1)), ("r", (1, 2)), ("s", (1, 1)), ("s", (2, 1)), ("s", (2, 2)), ("t", (1,)),
                  ("t", (2,)))),
        (CHAIN, "[] r(1 | x), s(x | x)", store_of(("r", (1, "a")), ("s", ("a", "a")), ("s", ("b", "a")))),
        ((("best", 0, 1), ("rain", 0, 0)), "[] rain(|), best(| x)",
         store_of(("best", (1,)), ("best", (2,)), ("rain", ()))),
        (WORKS, "[]", store_of(("open", (1,)), ("works", (1, 1)), ("works", (1, 2)))),
    ]

    def test_papers_that_are_wrong_in_one_place(self):
        for schema, text, store in self.SMALL:
            whole = read(schema, text)
            paper = reckon(schema, store, whole)[1]
            self.assertIs(judge_paper(schema, store, whole, paper), True)
            wrong = 0
            for other in plain.changed(paper):
                if not isinstance(other, tuple):
                    continue
                right = plain.is_paper(schema, store, whole[1], plan_of(schema, whole), {}, other)
                self.assertIs(judge_paper(schema, store, whole, other), right, other)
                wrong += not right
            self.assertGreater(wrong, 5)

    def test_papers_that_are_wrong_twice(self):
        chances = Chances(10)
        for schema, text, store in self.SMALL[2:]:
            whole = read(schema, text)
            for other in plain.changed(reckon(schema, store, whole)[1]):
                for twice in plain.changed(other):
                    if isinstance(twice, tuple) and not chances.below(20):
                        right = plain.is_paper(schema, store, whole[1], plan_of(schema, whole), {}, twice)
                        self.assertIs(judge_paper(schema, store, whole, twice), right, twice)

    def test_several_papers_are_right(self):
        store = store_of(("r", (1, 1)), ("r", (2, 1)), ("s", (1, 5)), ("s", (1, 6)))
        whole = read(CHAIN, "[] r(x | y), s(z | u)")
        ends = ((1,), (((1, 5), ()), ((1, 6), ())))
        for key in (1, 2):
            self.assertIs(judge_paper(CHAIN, store, whole, ((key,), (((key, 1), ends),))), True)
        self.assertIs(judge_paper(CHAIN, store, whole, ((3,), (((3, 1), ends),))), False)
        self.assertIs(judge_paper(CHAIN, store, whole, ((1,), (((2, 1), ends),))), False)

    def test_each_branch_is_judged(self):
        # Two branches lead to the same place; the paper behind the second is the wrong one.
        store = store_of(("r", (1, 1)), ("r", (1, 2)), ("s", (7, 1)), ("s", (8, 1)), ("s", (8, 2)), ("t", (1,)))
        whole = read(CHAIN, "[] r(1 | x), s(y | z)")
        right, other = ((7,), (((7, 1), ()),)), ((8,), (((8, 1), ()), ((8, 2), ())))
        wrong = ((8,), (((8, 1), ()), ((8, 3), ())))
        for first, second, verdict in [(right, right, True), (right, other, True), (other, right, True),
                                       (right, wrong, False), (wrong, right, False), (other, wrong, False)]:
            paper = ((1,), (((1, 1), first), ((1, 2), second)))
            self.assertIs(judge_paper(CHAIN, store, whole, paper), verdict)

    def test_papers_of_other_stores_and_other_joins(self):
        whole = read(WORKS, "[] works(x | y), open(y |)")
        store = self.SMALL[0][2]
        paper = reckon(WORKS, store, whole)[1]
        self.assertIs(judge_paper(WORKS, (), whole, paper), False)
        self.assertIs(judge_paper(WORKS, store[1:], whole, paper), False)
        self.assertIs(judge_paper(WORKS, store[:3] + store[4:], whole, paper), False)
        self.assertIs(judge_paper(WORKS, store_of(*store, ("works", ("ann", "zoo"))), whole, paper), False)
        self.assertIs(judge_paper(WORKS, store, read(WORKS, "[] works(x | y)"), paper), False)
        self.assertIs(judge_paper(WORKS, store, read(WORKS, '[] works("bob" | y), open(y |)'), paper), False)
        self.assertIs(judge_paper(WORKS, store, read(WORKS, '[] works("ann" | y), open(y |)'), paper), True)
        self.assertIs(judge_paper(WORKS, store, read(WORKS, '[] works(x | y), open("bar" |)'), paper), False)
        self.assertIs(judge_paper(WORKS, store, read(WORKS, "[]"), paper), False)

    def test_there_is_no_paper_for_joins_that_are_not_sure(self):
        store = store_of(("r", (1, 1)), ("r", (1, 2)), ("s", (1, 1)))
        whole = read(CHAIN, "[] r(x | y), s(y | z)")
        half = ((1, 1), ((1,), (((1, 1), ()),)))
        for paper in [(), ((1,), ()), ((1,), (half,)), ((1,), (half, ((1, 2), ()))),
                      ((1,), (half, ((1, 2), ((2,), ())))), ((1,), (half, ((1, 2), half[1]))),
                      ((1,), (half, half))]:
            self.assertIs(judge_paper(CHAIN, store, whole, paper), False)

    def test_tuples_that_are_no_papers(self):
        for schema, text, store in self.SMALL[:4]:
            whole = read(schema, text)
            for at, other in enumerate(plain.no_tuples(10000)):
                self.assertIs(judge_paper(schema, store, whole, other), False, at)
        empty = read(WORKS, "[]")
        for at, other in enumerate(plain.no_tuples(10000)):
            self.assertIs(judge_paper(WORKS, (), empty, other), at == 0, at)

    def test_made_up_cases(self):
        chances = Chances(9)
        told = {True: 0, False: 0}
        for _ in range(1500):
            schema = chances.schema(FORMS, 4)
            body = chances.simple_body(schema, ["x", "y", "z"], [1, 2])
            store = chances.store(schema, chances.below(10), [1, 2])
            plan = plan_of(schema, ((), body))
            if plan is None:
                continue
            verdict, paper = reckon(schema, store, ((), body))
            if verdict == "fails":
                continue
            for other in plain.changed(paper):
                if isinstance(other, tuple) and not chances.below(10):
                    right = plain.is_paper(schema, store, body, plan, {}, other)
                    self.assertIs(judge_paper(schema, store, ((), body), other), right)
                    told[right] += 1
            self.assertIs(judge_paper(schema, store, ((), body), paper), True)
            told[True] += 1
        self.assertGreater(min(told.values()), 100)


class VeryManyMendings(Checked):
    def test_each_block_has_two_rows(self):
        store = store_of(*[("works", (at, other)) for at in range(90) for other in (at, at + 1)],
                         *[("open", (at,)) for at in range(2, 20)])
        whole = read(WORKS, "[] works(x | y), open(y |)")
        self.assertEqual(count_mendings(WORKS, store), 2**90)
        self.check_sure(WORKS, store, whole)
        self.check_fails(WORKS, store_of(*[fact for fact in store if fact[0] == "works" or fact[1][0] & 1]), whole)

    def test_tables_that_have_nothing_to_do_with_each_other(self):
        # The papers have 25 ** 8 branches in all, if equal ones are not made once.
        schema = tuple([(letter, 0, 1) for letter in LETTERS])
        store = store_of(*[(letter, (value,)) for letter in LETTERS for value in range(25)])
        self.check_sure(schema, store, join([], *[atom(letter, var(letter)) for letter in LETTERS]))
        self.check_fails(schema, store, join([], *[atom(letter, var(letter)) for letter in LETTERS[:7]],
                                             atom("h", val(3))))

    def test_papers_that_are_wrong_in_one_of_very_many_branches(self):
        schema = tuple([(letter, 0, 1) for letter in LETTERS])
        store = store_of(*[(letter, (value,)) for letter in LETTERS for value in range(25)])
        whole = join([], *[atom(letter, var(letter)) for letter in LETTERS])
        paper = self.check_sure(schema, store, whole)

        def with_end(part, deep, at, end):
            if deep == 0:
                return end
            key, branches = part
            row, inner = branches[at]
            return (key, branches[:at] + ((row, with_end(inner, deep - 1, at, end)),) + branches[at + 1:])

        for deep in range(1, 9):
            for at in [0, 13, 24]:
                self.assertIs(judge_paper(schema, store, whole, with_end(paper, deep, at, ((),))), False)
                self.assertIs(judge_paper(schema, store, whole, with_end(paper, deep, at, 0)), False)
        self.assertIs(judge_paper(schema, store, whole, with_end(paper, 8, 24, ())), True)

    def test_chains_of_eight_atoms(self):
        schema = tuple([(letter, 1, 1) for letter in LETTERS])
        body = [atom(letter, var(letter), var(after)) for letter, after in zip(LETTERS, LETTERS[1:] + "i")]
        store = store_of(*[(letter, (at, other)) for letter in LETTERS for at in range(5) for other in range(5)])
        self.check_sure(schema, store, join([], *body))
        self.check_fails(schema, store, join([], *body[:7], atom("h", var("h"), val(0))))
        lame = store_of(*[(letter, (at, other)) for letter, (at, other) in store if letter != "h" or at < 4])
        self.check_fails(schema, lame, join([], *body))

    def test_tables_that_meet_in_one(self):
        schema = tuple([(letter, 1, 0) for letter in LETTERS[:7]]) + (("h", 7, 1),)
        facts = [(letter, (value,)) for letter in LETTERS[:7] for value in range(25)]
        body = [atom(letter, var(letter)) for letter in LETTERS[:7]]
        hub = atom("h", *[var(letter) for letter in LETTERS[:7]], val("ok"))
        rows = [tuple([(at * step) & 15 for step in range(1, 8)]) for at in range(12)]
        bad = [("h", row + (word,)) for row in rows for word in ("no", "ok")]
        for more, verdict in [([], "fails"), (bad, "fails"), (bad[:-2] + bad[-1:], "sure")]:
            store = store_of(*facts, *more)
            for whole in [join([], *body, hub), join([], hub, *body)]:
                if verdict == "sure":
                    self.check_sure(schema, store, whole)
                else:
                    self.check_fails(schema, store, whole)


if __name__ == "__main__":
    unittest.main()

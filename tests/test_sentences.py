import inspect
import unittest

import plain
from everymending import sentences
from everymending.plainly import holds
from everymending.sentences import is_sentence, sentence_holds
from plain import Chances, store_of, val, var

GREAT = 10**60 - 1
X, Y, Z = var("x"), var("y"), var("z")
WORKS = (("open", 1, 0), ("works", 1, 1))
FORMS = [(0, 0), (0, 1), (1, 0), (1, 1), (1, 1), (1, 2), (2, 0)]
ALWAYS, NEVER = ("and", ()), ("or", ())


def works(one, other):
    return ("fact", "works", (one, other))


def opened(term):
    return ("fact", "open", (term,))


def same(one, other):
    return ("same", one, other)


def deep(kind, many, inner):
    """The inner sentence behind so many of this kind."""
    for _ in range(many):
        inner = {"not": ("not", inner), "some": ("some", "x", inner), "each": ("each", "x", inner),
                 "and": ("and", (ALWAYS, inner)), "or": ("or", (inner, NEVER))}[kind]
    return inner


class Interface(unittest.TestCase):
    def test_functions_and_their_arguments(self):
        told = {"is_sentence": ["schema", "sentence"], "sentence_holds": ["schema", "store", "sentence"]}
        for name, arguments in told.items():
            function = getattr(sentences, name)
            self.assertEqual(function.__module__, "everymending.sentences")
            self.assertEqual(list(inspect.signature(function).parameters), arguments)


class Valid(unittest.TestCase):
    def check(self, verdict, *found):
        for sentence in found:
            self.assertIs(is_sentence(WORKS, sentence), verdict, sentence)

    def test_facts(self):
        self.check(True, opened(val(1)), works(val("a"), val(-GREAT)), ("some", "x", works(X, X)))
        self.check(False, ("fact", "none", (val(1),)), ("fact", "", ()), ("fact", "Open", (val(1),)),
                   ("fact", "open", ()),
                   ("fact", "open", (val(1), val(2))), ("fact", "works", (val(1),)), ("fact", "works", (val(1),) * 3),
                   opened(val("")), opened(val("A")), opened(val("a b")), works(val(1), val("a1")), opened(X))
        self.assertIs(is_sentence((("rain", 0, 0),), ("fact", "rain", ())), True)
        self.assertIs(is_sentence((("rain", 0, 0),), ("fact", "rain", (val(1),))), False)
        self.assertIs(is_sentence((), ("fact", "open", (val(1),))), False)

    def test_same(self):
        self.check(True, same(val(1), val("a")), same(val(1), val(1)), ("each", "x", same(X, val(2))),
                   ("each", "x", same(X, X)))
        self.check(False, same(X, X), same(val(1), X), same(X, val(1)), ("some", "y", same(X, Y)),
                   ("some", "y", same(Y, X)),
                   same(val("A"), val(1)), same(val(1), val("")), ("some", "x", same(X, val("B"))))

    def test_numbers_of_members(self):
        one = same(val(1), val(1))
        for kind in ("and", "or"):
            self.check(True, (kind, ()), (kind, (one, one)), (kind, (one,) * 3), (kind, (one,) * 900),
                       (kind, (ALWAYS, NEVER)))
            self.check(False, (kind, (one,)), ("not", (kind, (one,))), (kind, (one, (kind, (one,)))),
                       (kind, (one, opened(X))),
                       (kind, (opened(X), one)), (kind, (one, one, opened(val("")))))

    def test_bound_variables(self):
        self.check(True, ("some", "x", ("each", "y", works(X, Y))), ("some", "x", ("each", "x", works(X, X))),
                   ("some", "x", ALWAYS), ("each", "works", opened(var("works"))), ("some", "x", ("not", opened(X))),
                   ("and", (("some", "x", opened(X)), ("each", "x", opened(X)))))
        self.check(False, ("some", "x", works(X, Y)), ("and", (("some", "x", opened(X)), opened(X))),
                   ("or", (opened(X), ("some", "x", opened(X)))), ("not", opened(X)),
                   ("some", "y", ("each", "z", opened(X))),
                   ("some", "xx", opened(X)))

    def test_names_of_variables(self):
        for name in ("", "X", "x1", "x y", " x", "_", '"x"', "?", "\n"):
            for kind in ("some", "each"):
                self.check(False, (kind, name, ALWAYS), (kind, name, opened(var(name))),
                           ("some", "x", (kind, name, opened(X))), ("not", (kind, name, ALWAYS)))
        self.check(False, opened(var("X")), opened(var("")), ("some", "x", opened(var("X"))))
        self.check(True, ("some", "abcdefghijklmnopqrstuvwxyz" * 9, ALWAYS))

    def test_depths(self):
        for kind in ("not", "some", "each", "and", "or"):
            for inner in (opened(val(1)), same(val(1), val(2)), ALWAYS, NEVER):
                self.check(True, deep(kind, 39, inner))
                self.check(False, deep(kind, 40, inner), deep(kind, 41, inner), deep(kind, 60, inner))
        self.check(True, ("and", (deep("not", 38, ALWAYS), deep("some", 38, ALWAYS))))
        self.check(False, ("and", (ALWAYS, deep("not", 38, ALWAYS), deep("some", 39, ALWAYS))))
        self.check(False, ("or", (deep("each", 39, ALWAYS), ALWAYS)))
        self.check(True, deep("not", 38, ("or", (ALWAYS, NEVER))))
        self.check(False, deep("not", 39, ("or", (ALWAYS, NEVER))))

    def test_made_up_sentences(self):
        chances = Chances(41)
        for _ in range(500):
            schema = chances.schema(FORMS, 3)
            self.assertIs(is_sentence(schema, chances.sentence(schema, 6, ["x", "y"], [1, "a"])), True)


class Holds(unittest.TestCase):
    STORE = store_of(("open", (2,)), ("open", (3,)), ("works", (1, 2)), ("works", (1, 3)), ("works", (4, 5)))

    def check(self, verdict, *found, store=STORE):
        for sentence in found:
            self.assertIs(is_sentence(WORKS, sentence), True)
            self.assertIs(sentence_holds(WORKS, store, sentence), verdict, sentence)
            self.assertIs(sentence_holds(WORKS, store, ("not", sentence)), not verdict, sentence)

    def test_facts_and_same(self):
        self.check(True, opened(val(2)), works(val(1), val(2)), works(val(1), val(3)), same(val(7), val(7)),
                   same(val("a"), val("a")))
        self.check(False, opened(val(1)), works(val(2), val(1)), works(val(4), val(2)), same(val(7), val(8)),
                   same(val("a"), val(0)))
        self.check(False, opened(val(2)), store=())

    def test_sentences_without_members(self):
        for store in (self.STORE, ()):
            self.check(True, ALWAYS, ("and", (ALWAYS, ALWAYS)), ("or", (NEVER, ALWAYS)), store=store)
            self.check(False, NEVER, ("and", (ALWAYS, NEVER)), ("or", (NEVER, NEVER)), store=store)

    def test_members(self):
        good, bad = opened(val(2)), opened(val(1))
        self.check(True, ("and", (good, good, good)), ("or", (bad, good)), ("or", (good, bad)),
                   ("or", (bad, bad, good)))
        self.check(False, ("and", (good, good, bad)), ("and", (bad, good)), ("or", (bad, bad)),
                   ("and", (good, bad, good)))

    def test_some_and_each(self):
        self.check(True, ("some", "x", opened(X)), ("some", "x", ("each", "y", ("or", (("not", works(X, Y)),
                                                                                       opened(Y))))),
                   ("each", "x", ("or", (("not", opened(X)), ("some", "y", works(Y, X))))),
                   ("some", "x", ("some", "y", ("and", (works(X, Y), ("not", opened(Y)))))))
        self.check(False, ("each", "x", opened(X)), ("some", "x", works(X, X)),
                   ("each", "x", ("some", "y", works(X, Y))),
                   ("each", "x", ("each", "y", ("or", (("not", works(X, Y)), opened(Y))))))

    def test_a_broken_store(self):
        # Two rivals are both there.
        self.check(True, ("and", (works(val(1), val(2)), works(val(1), val(3)))))

    def test_variables_that_are_bound_twice(self):
        self.check(True, ("some", "x", ("and", (same(X, val(1)), ("some", "x", same(X, val(2)))))),
                   ("some", "x", ("and", (("some", "x", same(X, val(2))), same(X, val(1))))),
                   ("each", "x", ("some", "x", opened(X))), ("some", "x", ("and", (opened(X),
                                                                                   ("each", "x", same(X, X))))),
                   ("some", "y", ("some", "x", ("and", (works(X, Y), ("some", "y", ("and", (works(X, Y),
                                                                                            same(Y, val(3))))),
                                                        same(Y, val(2)))))))
        self.check(False, ("some", "x", ("and", (opened(X), ("each", "x", opened(X))))),
                   ("some", "x", ("each", "x", opened(X))))

    def test_the_values(self):
        # Those of the facts, and those of the whole sentence, also where the variable is not bound.
        for store, verdict in [((), False), (self.STORE, True)]:
            self.check(verdict, ("some", "x", ALWAYS), ("some", "x", same(X, X)), ("not", ("each", "x", NEVER)),
                       store=store)
            self.check(True, ("each", "x", ALWAYS), ("not", ("some", "x", NEVER)), store=store)
        seven = ("some", "x", same(X, val(7)))
        self.check(True, seven, store=())
        self.check(True, ("or", (("each", "x", NEVER), same(val(1), val(1)))), store=())
        self.check(False, ("and", (("each", "x", NEVER), same(val(1), val(1)))), store=())
        self.check(True, ("and", (("some", "x", ALWAYS), same(val(1), val(1)))), store=())
        self.check(True, ("or", (("some", "x", ("not", opened(X))), ("not", opened(val(9))))),
                   store=store_of(("open", (3,))))
        self.check(False, ("some", "x", ("not", opened(X))), store=store_of(("open", (3,))))
        self.check(True, ("and", (("some", "x", ("not", opened(X))), ("not", opened(val(9))))),
                   store=store_of(("open", (3,))))
        self.check(True, ("each", "x", ("each", "y", same(X, Y))), store=store_of(("open", (3,))))
        self.check(False, ("and", (("each", "x", ("each", "y", same(X, Y))), ("or", (ALWAYS, same(val("a"), val(3)))))),
                   store=store_of(("open", (3,))))
        self.check(True, ("some", "x", ("and", (same(X, val("a")), ("some", "y", same(Y, val(GREAT)))))), store=())

    def test_words_and_integers(self):
        store = store_of(("works", ("a", 0)), ("works", (-GREAT, "aa")))
        self.check(True, ("some", "x", ("some", "y", ("and", (works(X, Y), same(Y, val("aa")),
                                                              same(X, val(-GREAT)))))), store=store)
        self.check(False, ("some", "x", ("and", (works(X, val(0)), same(X, val("b"))))), store=store)

    def test_questions_as_sentences(self):
        chances = Chances(42)
        seen = {True: 0, False: 0}
        while min(seen.values()) < 40:
            schema = chances.schema(FORMS, 3)
            body = chances.body(schema, 2 + chances.below(4), ["x", "y", "z", "u"], [1, 2])
            store = chances.store(schema, chances.below(10), [1, 2, 3])
            sentence = ("and", tuple([("fact", name, terms) for name, terms in body]))
            for variable in sorted(set().union(*[plain.variables(terms) for _, terms in body])):
                sentence = ("some", variable, sentence)
            verdict = sentence_holds(schema, store, sentence)
            self.assertIs(verdict, holds(store, (0, (((), body),))))
            seen[verdict] += 1

    def test_made_up_sentences(self):
        chances = Chances(43)
        seen = {True: 0, False: 0}
        for _ in range(4000):
            schema = chances.schema(FORMS, 3)
            values = chances.pick([[1, 2], [1, "a", 3]])
            store = chances.store(schema, chances.below(8), values)
            sentence = chances.sentence(schema, 2 + chances.below(4), ["x", "y", "z"], values, ("x", "y", "z"))
            for variable in "xyz":
                sentence = (chances.pick(["some", "each"]), variable, sentence)
            verdict = sentence_holds(schema, store, sentence)
            self.assertIs(verdict, plain.sentence_holds(store, sentence), (store, sentence))
            seen[verdict] += 1
        self.assertGreater(min(seen.values()), 800)


class GreatSentences(unittest.TestCase):
    STORE = store_of(*[("works", (at, (at * 7 + more) % 100)) for at in range(100) for more in (0, 1)])

    def test_deep_sentences(self):
        for kind in ("not", "some", "each", "and", "or"):
            for many in range(36, 40):
                sentence = deep(kind, many, works(val(0), val(1)))
                verdict = kind != "not" or many % 2 == 0
                self.assertIs(sentence_holds(WORKS, self.STORE, sentence), verdict)
        sentence = opened(X)
        for at in range(39):
            sentence = (["some", "each"][at % 2], "x", sentence) if at < 2 else ("not", sentence)
        self.assertIs(sentence_holds(WORKS, self.STORE, sentence), True)

    def test_many_variables(self):
        names = [letter + other for letter in "abc" for other in "abcdefghijkl"]
        chain = ("and", tuple([works(var(one), var(other)) for one, other in zip(names, names[1:])]))
        for last, verdict in [(same(var(names[0]), val(3)), True), (same(var(names[-1]), val("no")), False)]:
            sentence = ("and", chain[1] + (last,))
            for name in names[::-1]:
                sentence = ("some", name, sentence)
            self.assertIs(is_sentence(WORKS, sentence), True)
            self.assertIs(sentence_holds(WORKS, self.STORE, sentence), verdict)

    def test_many_members(self):
        members = tuple([("some", "y", works(val(at % 100), Y)) for at in range(400)])
        self.assertIs(sentence_holds(WORKS, self.STORE, ("and", members)), True)
        self.assertIs(sentence_holds(WORKS, self.STORE, ("and", members + (NEVER,))), False)
        linked = tuple([("some", "y", ("and", (works(X, Y), ("not", works(Y, val(at)))))) for at in range(200)])
        self.assertIs(sentence_holds(WORKS, self.STORE, ("some", "x", ("and", linked))), True)
        self.assertIs(sentence_holds(WORKS, self.STORE, ("some", "x", ("and", linked + (opened(X),)))), False)

    def test_what_is_so_for_each_value_of_many_variables(self):
        each = ("or", (("not", works(X, Y)), ("not", works(Y, Z)), ("some", "u", ("and", (works(X, var("u")),
                                                                                          works(var("u"), Z))))))
        for name in "zyx":
            each = ("each", name, each)
        self.assertIs(sentence_holds(WORKS, self.STORE, each), True)


class Calls(unittest.TestCase):
    def test_calls_do_not_disturb_each_other(self):
        sentence = ("some", "x", opened(X))
        store = store_of(("open", (2,)))
        for _ in range(2):
            self.assertIs(sentence_holds(WORKS, store, sentence), True)
            self.assertIs(sentence_holds(WORKS, (), sentence), False)


if __name__ == "__main__":
    unittest.main()

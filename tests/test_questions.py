import inspect
import itertools
import unittest

from everymending import questions
from everymending.errors import MendError, NoQuestion
from everymending.questions import check_question, is_simple, put_row, variables_of

LETTERS = "abcdefghijklmnopqrstuvwxyz"
NO_WORDS = [chr(code) for code in range(32, 127) if chr(code) not in LETTERS] + [
    "", "\n", "\t", "Ann", "aNn", "anN", "a b", "ann\n", "\tann", " x", "x ", "\"ann\"", "a`", "{a",
    "-1", "x1", "var|"]
GREAT = 10**5000

WORKS = (("open", 1, 0), ("rain", 0, 0), ("works", 1, 1))
COLUMNS = [(key, rest) for key in range(9) for rest in range(9 - key)]


def var(name):
    return ("var", name)


def val(value):
    return ("value", value)


def atom(name, *terms):
    return (name, terms)


def join(head, *body):
    return (tuple(head), body)


X, Y, Z = var("x"), var("y"), var("z")
ANN, BAR, ONE = val("ann"), val("bar"), val(1)

# Right joins over WORKS, by the width.
RIGHT = {
    0: join([], atom("works", X, Y), atom("open", Y)),
    1: join([X], atom("works", X, Y)),
    2: join([X, X], atom("works", X, BAR), atom("rain")),
    3: join([ANN, Y, ONE], atom("open", Y)),
}


class Interface(unittest.TestCase):
    def test_functions_and_their_arguments(self):
        told = {"check_question": ["schema", "question"], "variables_of": ["join"],
                "is_simple": ["join"], "put_row": ["question", "row"]}
        for name, arguments in told.items():
            with self.subTest(name=name):
                function = getattr(questions, name)
                self.assertEqual(function.__module__, "everymending.questions")
                self.assertEqual(list(inspect.signature(function).parameters), arguments)


class ValidQuestions(unittest.TestCase):
    def check(self, schema, question):
        self.assertIsNone(check_question(schema, question))

    def test_no_joins(self):
        for schema in [(), WORKS]:
            for width in range(9):
                with self.subTest(schema=schema, width=width):
                    self.check(schema, (width, ()))

    def test_no_heads_and_no_atoms(self):
        for schema in [(), WORKS]:
            for many in range(9):
                self.check(schema, (0, (join([]),) * many))

    def test_each_width_and_number_of_joins(self):
        for width in range(9):
            for head in [[X] * width, [ANN] * width, [ONE] * width, ([X, ANN, Y, ONE] * 2)[:width]]:
                for many in range(9):
                    with self.subTest(width=width, many=many):
                        self.check(WORKS, (width, (join(head, atom("works", X, Y)),) * many))

    def test_heads_of_values_without_atoms(self):
        for width in range(9):
            self.check(WORKS, (width, (join([ANN] * width),)))
            self.check((), (width, (join([ONE] * width),)))

    def test_each_number_of_atoms(self):
        body = [atom("works", X, Y), atom("open", Y), atom("rain"), atom("works", ANN, X)] * 2
        for many in range(9):
            with self.subTest(many=many):
                self.check(WORKS, (0, (join([], *body[:many]),)))
                self.check(WORKS, (0, (join([], *body[:many]),) * 8))
                self.check(WORKS, (0, (join([], *[atom("rain")] * many),)))

    def test_eight_joins_of_eight_atoms_at_width_8(self):
        head = [var(letter) for letter in LETTERS[:8]]
        body = [atom("t", *head)] * 8
        self.check((("t", 4, 4),), (8, (join(head, *body),) * 8))

    def test_variables_of_the_head_at_each_place_of_the_body(self):
        for many in range(1, 9):
            body = [atom("works", ANN, ONE)] * many
            for at in range(many):
                for found in [atom("works", X, BAR), atom("works", BAR, X), atom("open", X)]:
                    self.check(WORKS, (1, (join([X], *(body[:at] + [found] + body[at + 1:])),)))

    def test_variables_of_the_head_in_several_atoms(self):
        self.check(WORKS, (3, (join([X, Y, Z], atom("open", Z), atom("works", Y, Z),
                                    atom("open", X)),)))
        self.check(WORKS, (3, (join([Z, X, Z], atom("works", X, Z)),)))

    def test_variables_that_are_words_with_another_meaning(self):
        for name in ["open", "works", "rain", "none", "table", "value", "var", LETTERS, "z" * 999]:
            self.check(WORKS, (1, (join([var(name)], atom("works", var(name), val(name))),)))

    def test_values_of_all_kinds(self):
        for value in [0, 1, -1, 2**64, -10**30, GREAT, -GREAT, "a", "ann", "x", "var", LETTERS]:
            self.check(WORKS, (1, (join([val(value)], atom("works", val(value), val(value))),)))
            self.check(WORKS, (0, (join([], atom("open", val(value))),)))

    def test_tables_of_all_numbers_of_columns(self):
        for key, rest in COLUMNS:
            schema = (("a", 3, 1), ("t", key, rest), ("u", 2, 0))
            for term in [X, ANN, ONE]:
                with self.subTest(key=key, rest=rest, term=term):
                    self.check(schema, (0, (join([], atom("t", *[term] * (key + rest))),)))

    def test_tables_at_each_place(self):
        schema = tuple([(letter, 0, at % 9) for at, letter in enumerate(LETTERS[:20])])
        for name, _, rest in schema:
            self.check(schema, (0, (join([], atom(name, *[X] * rest)),)))

    def test_joins_that_are_not_simple(self):
        self.check(WORKS, (1, (join([X], *[atom("works", X, Y)] * 8),)))


class WrongQuestions(unittest.TestCase):
    def check(self, schema, question, index):
        with self.assertRaises(NoQuestion) as context:
            check_question(schema, question)
        self.assertIsInstance(context.exception, MendError)
        found = context.exception.join
        self.assertEqual(found, index)
        if index is None:
            self.assertIsNone(found)
        else:
            self.assertIs(type(found), int)

    def check_at_each_place(self, width, wrong):
        """The wrong join alone, and at each place among right ones; WORKS is the schema."""
        right = RIGHT[width]
        self.check(WORKS, (width, (wrong,)), 0)
        for many in [2, 3, 8]:
            for at in range(many):
                joins = (right,) * at + (wrong,) + (right,) * (many - at - 1)
                self.check(WORKS, (width, joins), at)
                # Of several wrong joins the first one counts.
                self.check(WORKS, (width, (right,) * at + (wrong,) * (many - at)), at)
        self.assertIsNone(check_question(WORKS, (width, (right,) * 8)))

    def test_the_width(self):
        for width in [-GREAT, -10**30, -8, -2, -1, 9, 10, 16, 2**64, GREAT]:
            self.check(WORKS, (width, ()), None)
            self.check((), (width, ()), None)
            self.check(WORKS, (width, (RIGHT[0],)), None)
            self.check(WORKS, (width, (RIGHT[1],) * 8), None)
        for width in [9, 10, 16]:
            self.check(WORKS, (width, (join([X] * width, atom("open", X)),)), None)
            self.check(WORKS, (width, (join([ANN] * width),)), None)

    def test_too_many_joins(self):
        for many in [9, 10, 16, 50]:
            for width, right in RIGHT.items():
                with self.subTest(many=many, width=width):
                    self.check(WORKS, (width, (right,) * many), None)
                    self.check(WORKS, (width, (join([ANN] * width),) * many), None)

    def test_width_and_number_of_joins_are_checked_first(self):
        wrong = join([X], atom("shop", X))
        for width in [-1, 9]:
            self.check(WORKS, (width, (wrong,)), None)
            self.check(WORKS, (width, (wrong,) * 9), None)
        for width in [0, 1, 8]:
            self.check(WORKS, (width, (wrong,) * 9), None)
            self.check(WORKS, (width, (RIGHT[1],) * 8 + (wrong,)), None)

    def test_heads_of_another_width(self):
        for width in RIGHT:
            for many in range(11):
                if many != width:
                    for term in [X, ANN]:
                        self.check_at_each_place(width, join([term] * many, atom("open", X)))

    def test_one_head_of_another_width(self):
        for width in range(9):
            right = join([ANN] * width)
            for wrong in [join([ANN] * (width + 1))] + [join([ANN] * (width - 1))] * min(width, 1):
                for at in range(8):
                    self.check(WORKS, (width, (right,) * at + (wrong,) + (right,) * (7 - at)), at)

    def test_too_many_atoms(self):
        for many in [9, 10, 16, 40]:
            self.check_at_each_place(0, join([], *[atom("rain")] * many))
            self.check_at_each_place(1, join([X], *[atom("works", X, Y)] * many))

    def test_names_that_no_table_has(self):
        for name in ["", "a", "work", "worksa", "Works", "works ", " works", "shop", "x", "1", 0, 1,
                     -1, GREAT]:
            self.check_at_each_place(1, join([X], atom(name, X, Y)))
            self.check_at_each_place(1, join([X], atom("works", X, Y), atom(name, X)))
            self.check_at_each_place(1, join([X], atom(name, X), atom("works", X, Y)))
            self.check_at_each_place(0, join([], atom(name)))

    def test_another_number_of_terms(self):
        for name, key, rest in WORKS:
            for many in range(11):
                if many != key + rest:
                    for term in [X, ANN, ONE]:
                        wrong = atom(name, *[term] * many)
                        self.check_at_each_place(0, join([], wrong))
                        self.check_at_each_place(0, join([], atom("rain"), wrong, atom("rain")))

    def test_another_number_of_terms_for_all_numbers_of_columns(self):
        for key, rest in COLUMNS:
            schema = (("a", 3, 1), ("t", key, rest), ("u", 2, 0))
            for many in range(11):
                if many != key + rest:
                    self.check(schema, (0, (join([], atom("t", *[X] * many)),)), 0)

    def test_variables_that_are_no_words(self):
        for name in NO_WORDS:
            for body in [[atom("works", var(name), Y)], [atom("works", Y, var(name))],
                         [atom("open", Y), atom("open", var(name))],
                         [atom("open", var(name)), atom("open", Y)]]:
                self.check(WORKS, (0, (join([], *body),)), 0)
                self.check(WORKS, (1, (RIGHT[1], join([Y], *body))), 1)
                self.check(WORKS, (1, (RIGHT[1], join([var(name)], *body))), 1)
        self.check_at_each_place(1, join([var("X")], atom("works", var("X"), Y)))

    def test_values_that_are_no_words(self):
        for text in NO_WORDS:
            for body in [[atom("works", val(text), Y)], [atom("works", Y, val(text))],
                         [atom("open", Y), atom("open", val(text))],
                         [atom("open", val(text)), atom("open", Y)]]:
                self.check(WORKS, (0, (join([], *body),)), 0)
                self.check(WORKS, (1, (RIGHT[1], join([Y], *body))), 1)
            self.check(WORKS, (1, (RIGHT[1], join([val(text)], atom("open", Y)))), 1)
            self.check(WORKS, (2, (join([ANN, val(text)]),)), 0)
        self.check_at_each_place(1, join([val("X")]))

    def test_variables_of_the_head_that_do_not_stand_in_the_body(self):
        for body in [[], [atom("rain")], [atom("open", Y)], [atom("works", Y, Z)],
                     [atom("open", val("x"))], [atom("works", val("x"), Y)],
                     [atom("open", var("xx")), atom("open", var("ax"))]]:
            self.check_at_each_place(1, join([X], *body))
            self.check_at_each_place(2, join([X, ANN], *body))
            self.check_at_each_place(2, join([ANN, X], *body))
        self.check_at_each_place(2, join([X, Y], atom("open", X)))
        self.check_at_each_place(2, join([X, Y], atom("open", Y)))
        # The body of another join does not help.
        self.check(WORKS, (1, (RIGHT[1], join([X], atom("open", Y)), RIGHT[1])), 1)

    def test_the_least_index_of_joins_with_different_faults(self):
        wrong = [join([X], atom("shop", X)), join([X, X], atom("open", X)), join([X]),
                 join([X], atom("open", var("X"))), join([X], *[atom("open", X)] * 9),
                 join([val("")]), join([X], atom("works", X))]
        for one, other in itertools.permutations(wrong, 2):
            self.check(WORKS, (1, (one, other)), 0)
            self.check(WORKS, (1, (RIGHT[1], one, RIGHT[1], other)), 1)

    def test_the_empty_schema(self):
        self.check((), (0, (join([]), RIGHT[0])), 1)
        self.check((), (1, (RIGHT[1],)), 0)

    def test_two_schemas_by_turns(self):
        other = (("open", 0, 2), ("works", 1, 0))
        for _ in range(3):
            self.assertIsNone(check_question(WORKS, (1, (RIGHT[1],))))
            self.check(other, (1, (RIGHT[1],)), 0)
            self.assertIsNone(check_question(other, (1, (join([X], atom("works", X)),))))
            self.check(WORKS, (1, (join([X], atom("works", X)),)), 0)


class VariablesOf(unittest.TestCase):
    def check(self, found_join, told):
        found = variables_of(found_join)
        self.assertEqual(found, told)
        self.assertIs(type(found), tuple)

    def test_no_variables(self):
        self.check(join([]), ())
        self.check(join([], atom("rain")), ())
        self.check(join([ANN, ONE]), ())
        self.check(join([ANN], atom("works", ANN, ONE), atom("open", val("x"))), ())

    def test_each_variable_once(self):
        self.check(join([X], atom("open", X)), ("x",))
        self.check(join([X, X], atom("works", X, X), atom("open", X)), ("x",))
        self.check(join([], atom("works", X, Y), atom("works", Y, X)), ("x", "y"))

    def test_alphabetical_order(self):
        names = ["a", "aa", "ab", "b", "ba", "open", "works", "x", "xy", "xz", "y", "z", "za", "zz"]
        for step in [1, 3, 5, 9, 11, 13]:
            some = [names[(at * step) % len(names)] for at in range(len(names))]
            body = [atom("works", var(some[at]), var(some[at + 1])) for at in range(0, 14, 2)]
            self.check(join([], *body), tuple(names))
            self.check(join([var(some[-1]), var(some[0])], *body), tuple(names))

    def test_values_are_no_variables(self):
        self.check(join([val("a"), X, val(3)], atom("works", X, val("y")),
                        atom("works", val(-1), Z)), ("x", "z"))
        self.check(join([val("x")], atom("works", X, val("x"))), ("x",))

    def test_names_are_no_variables(self):
        self.check(join([], atom("works", X, Y), atom("open", Y), atom("rain")), ("x", "y"))

    def test_variables_of_each_atom_and_each_place(self):
        head = [var(letter) for letter in LETTERS[7::-1]]
        self.check(join([], atom("t", *head)), tuple(LETTERS[:8]))
        self.check(join([], *[atom("open", term) for term in head]), tuple(LETTERS[:8]))
        self.check(join(head, *[atom("open", term) for term in head[::-1]]), tuple(LETTERS[:8]))

    def test_sixty_four_variables(self):
        names = [one + other for one in LETTERS[:8] for other in LETTERS[:8]]
        body = [atom("t", *[var(name) for name in names[at:at + 8]]) for at in range(0, 64, 8)]
        self.check(join([], *body), tuple(names))
        self.check(join([], *body[::-1]), tuple(names))


class IsSimple(unittest.TestCase):
    def check(self, found_join, told):
        self.assertIs(is_simple(found_join), told)

    def test_no_atom_and_one_atom(self):
        self.check(join([]), True)
        self.check(join([ANN]), True)
        self.check(join([], atom("rain")), True)
        self.check(join([X], atom("works", X, X)), True)

    def test_different_names(self):
        self.check(join([], atom("works", X, Y), atom("open", Y)), True)
        self.check(join([], *[atom(letter, X) for letter in LETTERS[7::-1]]), True)
        self.check(join([], atom("a", X), atom("aa", X), atom("aaa", X)), True)

    def test_the_same_name_at_each_two_places(self):
        for many in range(2, 9):
            body = [atom(letter, X) for letter in LETTERS[:many]]
            for one, other in itertools.combinations(range(many), 2):
                again = body[:other] + [body[one]] + body[other + 1:]
                self.check(join([], *again), False)
                again[other] = atom(body[one][0], Y)
                self.check(join([], *again), False)

    def test_equal_atoms_and_atoms_with_other_terms(self):
        self.check(join([], atom("rain"), atom("rain")), False)
        self.check(join([], atom("works", X, Y), atom("works", X, Y)), False)
        self.check(join([], atom("works", X, Y), atom("works", Y, Z)), False)
        self.check(join([], atom("works", ANN, X), atom("works", BAR, X)), False)

    def test_the_same_variables_do_not_matter(self):
        self.check(join([X], atom("works", X, X), atom("open", X)), True)
        self.check(join([], atom("works", var("works"), val("works")), atom("open", X)), True)


class PutRow(unittest.TestCase):
    def check(self, question, row, *bodies):
        """The result has these bodies, and empty heads."""
        found = put_row(question, row)
        self.assertTrue(found == (0, tuple([((), tuple(body)) for body in bodies])))
        self.assertIs(type(found[0]), int)
        self.assertIs(type(found[1]), tuple)
        for head, body in found[1]:
            for part in [head, body] + list(body):
                self.assertIs(type(part), tuple)

    def test_no_joins(self):
        for width in range(9):
            self.check((width, ()), (1,) * width)

    def test_no_head(self):
        body = [atom("works", X, Y), atom("open", Y)]
        self.check((0, (join([], *body),)), (), body)
        self.check((0, (join([]),)), (), [])
        self.check((0, (join([]), join([], *body), join([]))), (), [], body, [])

    def test_variables_are_replaced_by_their_values(self):
        body = [atom("works", X, Y), atom("open", Y)]
        self.check((1, (join([X], *body),)), ("ann",), [atom("works", ANN, Y), atom("open", Y)])
        self.check((1, (join([Y], *body),)), ("bar",), [atom("works", X, BAR), atom("open", BAR)])
        self.check((2, (join([X, Y], *body),)), ("ann", 1),
                   [atom("works", ANN, ONE), atom("open", ONE)])
        self.check((2, (join([Y, X], *body),)), ("ann", 1),
                   [atom("works", ONE, ANN), atom("open", ANN)])

    def test_each_place_of_an_atom(self):
        terms = [var(letter) for letter in LETTERS[:8]]
        for at in range(8):
            told = terms[:at] + [val(-7)] + terms[at + 1:]
            self.check((1, (join([terms[at]], atom("t", *terms)),)), (-7,), [atom("t", *told)])
        row = (0, "a", -1, "b", GREAT, "c", -GREAT, "d")
        self.check((8, (join(terms, atom("t", *terms)),)), row,
                   [atom("t", *[val(value) for value in row])])
        self.check((8, (join(terms[::-1], atom("t", *terms)),)), row,
                   [atom("t", *[val(value) for value in row[::-1]])])

    def test_values_of_the_head(self):
        body = [atom("works", X, Y)]
        for value in [0, 1, -1, GREAT, -GREAT, "a", "ab", "x"]:
            for other in [0, 1, -1, GREAT, -GREAT, "a", "ab", "x"]:
                bodies = [body] if value == other else []
                self.check((1, (join([val(value)], *body),)), (other,), *bodies)
                self.check((2, (join([val(value), ANN], *body),)), (other, "ann"), *bodies)
                self.check((2, (join([ANN, val(value)], *body),)), ("ann", other), *bodies)

    def test_values_and_variables_in_one_head(self):
        body = [atom("works", X, Y)]
        self.check((2, (join([X, ONE], *body),)), ("ann", 1), [atom("works", ANN, Y)])
        self.check((2, (join([X, ONE], *body),)), ("ann", 2))
        self.check((2, (join([X, ONE], *body),)), (1, "ann"))
        self.check((2, (join([ONE, X], *body),)), (1, "ann"), [atom("works", ANN, Y)])
        self.check((2, (join([ONE, X], *body),)), (2, "ann"))

    def test_a_variable_that_stands_twice_in_the_head(self):
        body = [atom("works", X, Y)]
        for value in [0, 7, -GREAT, "a", "ann"]:
            self.check((2, (join([X, X], *body),)), (value, value), [atom("works", val(value), Y)])
            for other in [1, GREAT, "b", "an"]:
                self.check((2, (join([X, X], *body),)), (value, other))
                self.check((2, (join([X, X], *body),)), (other, value))
                self.check((3, (join([X, Y, X], *body),)), (value, other, value),
                           [atom("works", val(value), val(other))])
                self.check((3, (join([X, Y, X], *body),)), (value, value, other))
                self.check((3, (join([X, X, X], *body),)), (value, value, other))
                self.check((3, (join([X, X, X], *body),)), (other, value, value))
                self.check((3, (join([X, X, X], *body),)), (value, other, value))

    def test_two_variables_may_get_the_same_value(self):
        self.check((2, (join([X, Y], atom("works", X, Y)),)), (1, 1), [atom("works", ONE, ONE)])

    def test_the_last_place_of_a_head_of_eight(self):
        body = [atom("open", X)]
        self.check((8, (join([X] * 8, *body),)), (1,) * 8, [atom("open", ONE)])
        for at in range(8):
            row = (1,) * at + (2,) + (1,) * (7 - at)
            self.check((8, (join([X] * 8, *body),)), row)
            self.check((8, (join([ONE] * 8, *body),)), row)

    def test_values_of_the_body_stay(self):
        self.check((1, (join([X], atom("works", X, val("x")), atom("open", val(5))),)), ("y",),
                   [atom("works", val("y"), val("x")), atom("open", val(5))])
        self.check((1, (join([X], atom("works", val("x"), X)),)), ("x",),
                   [atom("works", val("x"), val("x"))])

    def test_a_value_that_is_the_name_of_a_variable(self):
        self.check((1, (join([X], atom("works", X, Y)),)), ("y",), [atom("works", val("y"), Y)])
        self.check((2, (join([X, Y], atom("works", X, Y)),)), ("y", "x"),
                   [atom("works", val("y"), val("x"))])
        self.check((2, (join([Y, X], atom("works", X, Y)),)), ("x", "x"),
                   [atom("works", val("x"), val("x"))])

    def test_a_variable_whose_name_begins_with_another_one(self):
        self.check((1, (join([X], atom("works", X, var("xx"))),)), (1,),
                   [atom("works", ONE, var("xx"))])
        self.check((1, (join([var("xx")], atom("works", X, var("xx"))),)), (1,),
                   [atom("works", X, ONE)])

    def test_atoms_stay_in_their_order_and_number(self):
        body = [atom("open", Y), atom("works", X, Y), atom("rain"), atom("open", Y), atom("open", X)]
        self.check((1, (join([X], *body),)), ("ann",),
                   [atom("open", Y), atom("works", ANN, Y), atom("rain"), atom("open", Y),
                    atom("open", ANN)])
        self.check((1, (join([X], *[atom("open", X)] * 8),)), (1,), [atom("open", ONE)] * 8)

    def test_joins_stay_in_the_order_of_the_question(self):
        joins = (join([X], atom("works", X, Y)), join([ANN], atom("open", Z)), join([ONE]),
                 join([Y], atom("open", Y)), join([BAR], atom("rain")), join([ANN]),
                 join([X], atom("works", X, Y)), join([ANN], atom("open", Z)))
        self.check((1, joins), ("ann",), [atom("works", ANN, Y)], [atom("open", Z)],
                   [atom("open", ANN)], [], [atom("works", ANN, Y)], [atom("open", Z)])
        self.check((1, joins), (1,), [atom("works", ONE, Y)], [], [atom("open", ONE)],
                   [atom("works", ONE, Y)])
        self.check((1, joins[::-1]), ("bar",), [atom("works", BAR, Y)], [atom("rain")],
                   [atom("open", BAR)], [atom("works", BAR, Y)])

    def test_each_join_has_variables_of_its_own(self):
        joins = (join([X, Y], atom("works", X, Y)), join([Y, X], atom("works", X, Y)),
                 join([X, X], atom("works", X, Y)), join([Y, Z], atom("works", Z, X), atom("open", Y)))
        self.check((2, joins), ("ann", 1), [atom("works", ANN, ONE)], [atom("works", ONE, ANN)],
                   [atom("works", ONE, X), atom("open", ANN)])
        self.check((2, joins), (1, 1), [atom("works", ONE, ONE)], [atom("works", ONE, ONE)],
                   [atom("works", ONE, Y)], [atom("works", ONE, X), atom("open", ONE)])

    def test_the_question_stays_as_it_was(self):
        question = (1, (join([X], atom("works", X, Y)),))
        for row in [("ann",), (1,), ("bar",), ("ann",)]:
            self.check(question, row, [atom("works", val(row[0]), Y)])
        self.assertEqual(question, (1, (join([X], atom("works", X, Y)),)))

    def test_a_row_answers_exactly_if_the_closed_question_holds(self):
        facts = [("open", ("a",)), ("open", (1,)), ("works", ("a", "a")), ("works", ("a", 1)),
                 ("works", (1, 2)), ("works", (2, "a"))]
        values = ["a", 1, 2]
        pool = [join([X, Y], atom("works", X, Y)), join([X, X], atom("works", X, Y)),
                join([Y, X], atom("works", X, Y), atom("open", Y)),
                join([val("a"), Y], atom("works", X, Y), atom("works", Y, Z)),
                join([Z, val(1)], atom("works", X, Z), atom("works", Z, Y), atom("open", X)),
                join([val(2), val(2)], atom("open", val(1)))]
        for joins in itertools.combinations(pool, 2):
            rows = answers(facts, values, (2, joins))
            for row in itertools.product(values, repeat=2):
                with self.subTest(joins=joins, row=row):
                    closed = put_row((2, joins), row)
                    self.assertEqual(() in answers(facts, values, closed), row in rows)


def answers(facts, values, question):
    """The rows that answer a question: each valuation over the values is looked at."""
    found = []
    for head, body in question[1]:
        names = sorted({term[1] for _, terms in body for term in terms if term[0] == "var"})
        for chosen in itertools.product(values, repeat=len(names)):
            worth = dict(zip(names, chosen))

            def row_of(terms):
                return tuple([worth[part] if kind == "var" else part for kind, part in terms])

            if all([(name, row_of(terms)) in facts for name, terms in body]):
                found.append(row_of(head))
    return found


if __name__ == "__main__":
    unittest.main()

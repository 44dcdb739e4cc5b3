import inspect
import unittest

import plain
from everymending import book as book_module
from everymending.asking import best_strategy, depth_of
from everymending.blocks import make_store
from everymending.book import Book
from everymending.errors import BadText, MendError, NoKept, NoQuestion, NoRow, NoSchema
from everymending.mendings import is_mending
from everymending.plainly import holds
from everymending.questions import put_row
from everymending.reading import read_book, read_question
from everymending.trees import judge_tree
from plain import Chances, atom, closed, join, store_of, val, var

X, Y = var("x"), var("y")
WORKS = (("open", 1, 0), ("works", 1, 1))
FORMS = [(0, 0), (0, 1), (0, 2), (1, 0), (1, 1), (1, 1), (1, 2), (2, 0)]


def works(*rows):
    return [("works", row) for row in rows]


def put(*facts):
    return [("put", name, row) for name, row in facts]


def book_with(*facts):
    """A book in which no list is done yet."""
    book = Book.of_text("table open 1 0\ntable works 1 1\n" + "\n".join(
        [f"{name}({row[0]} |{''.join([f' {value}' for value in row[1:]])})" for name, row in facts]))
    return book


def asked(text):
    return read_question(WORKS, text)


class Interface(unittest.TestCase):
    def test_methods_and_their_arguments(self):
        told = {"of_text": ["text"], "do": ["self", "deeds"], "put": ["self", "name", "row"],
                "drop": ["self", "name", "row"], "settle": ["self", "name", "row"], "keep": ["self", "question"],
                "question": ["self", "number"], "forget": ["self", "number"], "sure": ["self", "number"],
                "possible": ["self", "number"], "undo": ["self"], "redo": ["self"], "why": ["self", "number", "row"],
                "share": ["self", "number", "row"], "next_block": ["self", "number", "row"], "book_text": ["self"],
                "papers": ["self"], "without": ["self", "facts", "number"], "__init__": ["self", "schema"]}
        self.assertEqual(book_module.Book.__module__, "everymending.book")
        for name, arguments in told.items():
            self.assertIn(name, vars(Book))
            self.assertEqual(list(inspect.signature(getattr(Book, name)).parameters), arguments)
        self.assertIs(type(vars(Book)["of_text"]), staticmethod)
        for name in ("book_schema", "whole_store"):
            self.assertIs(type(vars(Book)[name]), property)

    def test_the_example(self):
        schema = (("open", 1, 0), ("works", 1, 1))
        book = Book(schema)
        number = book.keep(read_question(schema, '[x] works(x | "bar")'))
        many = book.do([("put", "works", ("ann", "bar")), ("put", "works", ("ann", "shop"))])
        before = (book.sure(number), book.possible(number))
        changed = book.settle("works", ("ann", "bar"))
        self.assertEqual((many, before, changed, book.sure(number), book.papers()),
                         (2, ((), (('ann',),)), True, (('ann',),), ((1, (('works', ('ann',)),), (), (('ann',),)),)))


class Beginnings(unittest.TestCase):
    def test_new_books(self):
        for schema in [(), WORKS, (("a", 0, 0),), (("a", 8, 0), ("b", 0, 8))]:
            book = Book(schema)
            self.assertEqual((book.book_schema, book.whole_store, book.papers()), (schema, (), ()))
            self.assertEqual((book.undo(), book.redo()), (False, False))
            self.assertEqual(book.papers(), ())
            self.assertEqual(book.keep((0, ())), 1)
            self.assertEqual((book.sure(1), book.possible(1), book.papers()), ((), (), ()))

    def test_schemas_that_are_none(self):
        for schema in [(("b", 1, 1), ("a", 1, 1)), (("a", 1, 1), ("a", 1, 1)), (("A", 1, 1),), (("", 1, 1),),
                       (("a", -1, 1),),
                       (("a", 4, 5),), tuple([("a" * at, 1, 1) for at in range(1, 22)])]:
            with self.assertRaises(NoSchema):
                Book(schema)

    def test_books_of_texts(self):
        text = ('table works 1 1\nworks("bob" | 7)\n\n works ( "ann"|"bar" )\ntable open 1 0\nworks("bob" | 7)\n'
                'open(3 |)')
        book = Book.of_text(text)
        self.assertIs(type(book), Book)
        self.assertEqual((book.book_schema, book.whole_store), read_book(text))
        self.assertEqual(book.whole_store, store_of(("open", (3,)), *works(("ann", "bar"), ("bob", 7))))
        self.assertEqual((book.undo(), book.redo(), book.papers()), (False, False, ()))
        self.assertEqual(book.book_text(),
                         'table open 1 0\ntable works 1 1\nopen(3 |)\nworks("ann" | "bar")\nworks("bob" | 7)')
        self.assertIs(book.put("open", (4,)), True)
        self.assertIs(book.undo(), True)
        self.assertIs(book.undo(), False)
        self.assertEqual(book.whole_store, read_book(text)[1])
        self.assertEqual(Book.of_text("").book_schema, ())
        self.assertEqual(Book.of_text(" \n\n").book_text(), "")

    def test_texts_that_are_bad(self):
        for text, line, at in [("table works 1 1\nworks(1 | 2", 1, 11), ("open(1 |)", 0, 0), ("table a 1 8", 0, 10),
                               ("table a 1 1\n\ntable a 1 1", 2, 6)]:
            with self.assertRaises(BadText) as caught:
                Book.of_text(text)
            self.assertEqual((caught.exception.line, caught.exception.at), (line, at))

    def test_texts_of_books(self):
        book = Book(WORKS)
        self.assertEqual(book.book_text(), "table open 1 0\ntable works 1 1")
        book.do(put(("works", (2, "b")), ("works", (-1, 3)), ("open", ("z",))))
        self.assertEqual(book.book_text(),
                         'table open 1 0\ntable works 1 1\nopen("z" |)\nworks(-1 | 3)\nworks(2 | "b")')


class Deeds(unittest.TestCase):
    def test_putting(self):
        book = Book(WORKS)
        self.assertIs(book.put("works", (2, 1)), True)
        self.assertIs(book.put("works", (2, 1)), False)
        self.assertIs(book.put("works", (1, "a")), True)
        self.assertIs(book.put("open", (1,)), True)
        self.assertEqual(book.whole_store, (("open", (1,)), ("works", (1, "a")), ("works", (2, 1))))

    def test_dropping(self):
        book = book_with(*works((1, 2), (1, 3), (4, 5)))
        self.assertIs(book.drop("works", (1, 2)), True)
        self.assertIs(book.drop("works", (1, 2)), False)
        self.assertIs(book.drop("open", (1,)), False)
        self.assertEqual(book.whole_store, store_of(*works((1, 3), (4, 5))))

    def test_settling(self):
        book = book_with(*works((1, 2), (1, 3), (1, 4), (4, 5), (4, 6), (7, 3)))
        self.assertIs(book.settle("works", (1, 9)), False)
        self.assertIs(book.settle("works", (7, 3)), False)
        self.assertIs(book.settle("works", (1, 3)), True)
        self.assertIs(book.settle("works", (1, 3)), False)
        self.assertIs(book.settle("works", (1, 2)), False)
        self.assertEqual(book.whole_store, store_of(*works((1, 3), (4, 5), (4, 6), (7, 3))))

    def test_settling_in_tables_without_key_columns_and_without_other_columns(self):
        schema = (("best", 0, 1), ("other", 0, 1), ("seen", 2, 0))
        book = Book(schema)
        facts = [("best", (1,)), ("best", (2,)), ("other", (1,)), ("seen", (1, 2)), ("seen", (1, 3))]
        self.assertEqual(book.do(put(*facts)), 5)
        self.assertIs(book.settle("seen", (1, 2)), False)
        self.assertIs(book.settle("best", (2,)), True)
        self.assertEqual(book.whole_store, store_of(*facts[1:]))

    def test_lists(self):
        book = Book(WORKS)
        self.assertEqual(book.do([]), 0)
        self.assertEqual(book.do(put(*works((1, 2), (1, 3), (1, 2), (4, 4)))), 3)
        self.assertEqual(book.do([("drop", "works", (9, 9)), ("settle", "works", (9, 9)), ("put", "works", (1, 2)),
                                  ("settle", "works", (4, 4))]), 0)
        self.assertEqual(book.do([("put", "open", (1,)), ("drop", "open", (1,)), ("drop", "open", (1,)),
                                  ("put", "open", (1,))]), 3)
        self.assertEqual(book.do([("settle", "works", (1, 3)), ("put", "works", (1, 9)), ("settle", "works", (1, 9)),
                                  ("drop", "works", (4, 4)), ("settle", "works", (4, 4))]), 4)
        self.assertEqual(book.whole_store, store_of(("open", (1,)), *works((1, 9))))

    def test_kinds_of_what_is_returned(self):
        book = Book(WORKS)
        for deeds in [[], put(("open", (1,))), put(("open", (1,)))]:
            self.assertIs(type(book.do(deeds)), int)
        self.assertEqual([type(part) for part in (book.whole_store, *book.whole_store)], [tuple, tuple])

    def test_errors_at_any_place(self):
        bad = [("put", "none", (1,)), ("put", "", ()), ("drop", "open", ()), ("drop", "works", (1, 2, 3)),
               ("settle", "open", (1, 2)),
               ("put", "open", ("",)), ("put", "open", ("Bar",)), ("drop", "open", ("a b",)),
               ("settle", "works", (1, "x1")),
               ("settle", "none", (1,)), ("put", "Open", (1,))]
        good = [("put", "works", (1, 2)), ("drop", "works", (4, 5)), ("settle", "works", (6, 7)),
                ("put", "open", ("bar",))]
        book = book_with(*works((4, 5), (6, 7), (6, 8)))
        number = book.keep(asked("[x, y] works(x | y)"))
        book.put("open", (3,))
        book.put("open", (4,))
        book.undo()
        before = (book.whole_store, book.papers(), book.sure(number), book.book_text())
        for deed in bad:
            for at in range(len(good) + 1):
                with self.assertRaises(NoRow):
                    book.do(good[:at] + [deed] + good[at:])
                self.assertEqual((book.whole_store, book.papers(), book.sure(number), book.book_text()), before)
            with self.assertRaises(NoRow):
                {"put": book.put, "drop": book.drop, "settle": book.settle}[deed[0]](*deed[1:])
            self.assertEqual((book.whole_store, book.papers()), before[:2])
        self.assertIs(book.redo(), True)
        self.assertEqual(book.whole_store, store_of(("open", (3,)), ("open", (4,)), *works((4, 5), (6, 7), (6, 8))))

    def test_later_changes_of_the_list_have_no_effect(self):
        book = Book(WORKS)
        deeds = put(*works((1, 2), (1, 3)))
        book.keep(asked("[x] works(x | y)"))
        book.do(deeds)
        self.assertEqual(deeds, put(*works((1, 2), (1, 3))))
        del deeds[:]
        deeds.extend(put(("open", (9,))))
        self.assertEqual(book.whole_store, store_of(*works((1, 2), (1, 3))))
        self.assertEqual(book.papers(), ((1, (("works", (1,)),), (), ((1,),)),))
        self.assertEqual((book.undo(), book.redo()), (True, True))
        self.assertEqual(book.whole_store, store_of(*works((1, 2), (1, 3))))


class Times(unittest.TestCase):
    def test_undoing_and_redoing(self):
        book = Book(WORKS)
        stores = [()]
        for deeds in [put(*works((1, 2), (1, 3))), [("settle", "works", (1, 3))], put(("open", (3,))),
                      [("drop", "works", (1, 3))]]:
            book.do(deeds)
            stores.append(book.whole_store)
        for store in stores[-2::-1]:
            self.assertIs(book.undo(), True)
            self.assertEqual(book.whole_store, store)
        for _ in range(2):
            self.assertIs(book.undo(), False)
            self.assertEqual(book.whole_store, ())
        for store in stores[1:]:
            self.assertIs(book.redo(), True)
            self.assertEqual(book.whole_store, store)
        for _ in range(2):
            self.assertIs(book.redo(), False)
            self.assertEqual(book.whole_store, stores[-1])

    def test_lists_that_change_nothing_are_lists(self):
        book = Book(WORKS)
        book.put("open", (1,))
        for deeds in [[], put(("open", (1,))), [("drop", "open", (2,))],
                      [("put", "open", (2,)), ("drop", "open", (2,))]]:
            book.do(deeds)
        for _ in range(4):
            self.assertIs(book.undo(), True)
            self.assertEqual(book.whole_store, (("open", (1,)),))
        self.assertIs(book.undo(), True)
        self.assertEqual(book.whole_store, ())
        self.assertIs(book.undo(), False)

    def test_a_list_done_behind_an_undoing(self):
        for deeds in [put(("open", (9,))), [], put(("open", (1,)))]:
            book = Book(WORKS)
            for value in (1, 2, 3):
                book.put("open", (value,))
            book.undo()
            book.undo()
            self.assertIs(book.redo(), True)
            self.assertIs(book.undo(), True)
            book.do(deeds)
            self.assertIs(book.redo(), False)
            after = store_of(("open", (1,)), *[(name, row) for _, name, row in deeds])
            self.assertEqual(book.whole_store, after)
            self.assertIs(book.undo(), True)
            self.assertEqual(book.whole_store, (("open", (1,)),))
            self.assertIs(book.redo(), True)
            self.assertEqual(book.whole_store, after)

    def test_errors_do_not_forget_what_was_undone(self):
        book = Book(WORKS)
        book.put("open", (1,))
        book.undo()
        with self.assertRaises(NoRow):
            book.do([("put", "open", ())])
        self.assertIs(book.redo(), True)

    def test_kept_questions_stay_kept(self):
        book = Book(WORKS)
        book.put("open", (1,))
        number = book.keep(asked("[x] open(x |)"))
        book.undo()
        self.assertEqual(book.question(number), asked("[x] open(x |)"))
        self.assertEqual(book.sure(number), ())
        other = book.keep(asked("[]"))
        book.redo()
        self.assertEqual((book.sure(number), book.sure(other)), (((1,),), ((),)))
        book.forget(number)
        book.undo()
        with self.assertRaises(NoKept):
            book.sure(number)
        self.assertEqual(book.keep(asked("[]")), 3)


class Questions(unittest.TestCase):
    def refused(self, book, number):
        for call in [lambda: book.question(number), lambda: book.forget(number), lambda: book.sure(number),
                     lambda: book.possible(number), lambda: book.why(number, ()), lambda: book.share(number, ()),
                     lambda: book.next_block(number, ()), lambda: book.without([], number)]:
            with self.assertRaises(NoKept) as caught:
                call()
            self.assertEqual(caught.exception.number, number)
            self.assertIsInstance(caught.exception, MendError)

    def test_numbers(self):
        book = Book(WORKS)
        question = asked("[x] open(x |)")
        self.assertEqual([book.keep(question), book.keep(asked("[]")), book.keep(question)], [1, 2, 3])
        self.assertEqual([book.question(1), book.question(2), book.question(3)], [question, asked("[]"), question])
        self.assertIsNone(book.forget(3))
        self.assertEqual(book.keep(question), 4)
        self.assertIsNone(book.forget(1))
        self.assertEqual(book.question(4), question)
        self.assertEqual(book.keep(question), 5)

    def test_numbers_that_were_forgotten_or_never_given(self):
        book = Book(WORKS)
        for number in (-1, 0, 1, 2, 10**60):
            self.refused(book, number)
        book.keep(asked("[]"))
        book.keep(asked("[]"))
        book.forget(1)
        for number in (-1, 0, 1, 3, 10**60):
            self.refused(book, number)
        self.assertEqual(book.sure(2), ((),))

    def test_questions_that_are_not_valid(self):
        book = Book(WORKS)
        good = ((X,), (("open", (X,)),))
        for question, told in [((9, ()), None), ((-1, ()), None), ((1, (good,) * 9), None),
                               ((1, (good, ((Y,), good[1]))), 1),
                               ((1, (((X,), (("none", (X,)),)), good)), 0), ((2, (good,)), 0),
                               ((1, (good, good, ((val("A"),), ()))), 2)]:
            with self.assertRaises(NoQuestion) as caught:
                book.keep(question)
            self.assertEqual(caught.exception.join, told)
        self.assertEqual(book.keep((1, (good,) * 8)), 1)

    def test_what_is_told_of_a_question(self):
        book = book_with(("open", (2,)), *works((1, 2), (1, 3), (4, 2)))
        number = book.keep(asked("[x] works(x | y), open(y |)"))
        self.assertEqual((book.sure(number), book.possible(number)), (((4,),), ((1,), (4,))))
        self.assertEqual([book.share(number, (value,)) for value in (1, 4, 5)], [(1, 2), (2, 2), (0, 2)])
        self.assertEqual([book.next_block(number, (value,)) for value in (1, 4, 5)], [("works", (1,)), None, None])
        self.assertEqual(book.why(number, (4,)), ("sure", ("leaf", 0, (("y", 2),))))
        self.assertEqual(book.why(number, (1,)), ("fails", store_of(("open", (2,)), *works((1, 3), (4, 2)))))
        self.assertEqual(book.why(number, ("a",))[0], "fails")
        book.put("open", (3,))
        self.assertEqual((book.sure(number), book.possible(number)), (((1,), (4,)),) * 2)
        self.assertEqual(book.why(number, (1,))[1][:3], ("split", "works", (1,)))
        self.assertIsNone(book.next_block(number, (1,)))

    def test_without(self):
        book = book_with(("open", (2,)), ("open", (3,)), *works((1, 2), (1, 3), (4, 2)))
        number = book.keep(asked("[x] works(x | y), open(y |)"))
        before = (book.whole_store, book.papers())
        facts = [("open", (3,))]
        self.assertEqual(book.without(facts, number), ((4,),))
        self.assertEqual(facts, [("open", (3,))])
        self.assertEqual(book.without([], number), ((1,), (4,)))
        self.assertEqual(book.without(works((1, 2), (9, 9)), number), ((1,), (4,)))
        self.assertEqual(book.without(works((1, 2), (1, 3)), number), ((4,),))
        self.assertEqual(book.without(list(book.whole_store), number), ())
        self.assertEqual(book.without([("open", (2,)), *works((1, 2)), ("open", (2,))], number), ((1,),))
        self.assertEqual((book.whole_store, book.papers(), book.undo()), before + (False,))
        self.assertEqual(book.sure(number), ((1,), (4,)))

    def test_two_books_side_by_side(self):
        one, other = Book(WORKS), Book(WORKS)
        self.assertEqual([one.keep(asked("[]")), other.keep(asked("[x] open(x |)")), one.keep(asked("none 0"))],
                         [1, 1, 2])
        one.put("open", (1,))
        self.assertEqual((other.whole_store, other.papers(), other.sure(1)), ((), (), ()))
        other.put("works", (1, 1))
        self.assertEqual(one.whole_store, (("open", (1,)),))
        self.assertEqual((other.undo(), other.undo(), one.undo()), (True, False, True))
        other.forget(1)
        self.assertEqual(one.question(1), asked("[]"))


class Papers(unittest.TestCase):
    def test_what_papers_tell(self):
        book = Book(WORKS)
        one = book.keep(asked("[x] works(x | y), open(y |)"))
        two = book.keep(asked("[y] open(y |)"))
        book.do(put(("open", (2,)), *works((1, 2), (4, 2), (4, 3))))
        self.assertEqual(book.papers(), ((one, (("open", (2,)), ("works", (1,)), ("works", (4,))), (), ((1,),)),
                                         (two, (("open", (2,)),), (), ((2,),))))
        book.do([("put", "works", (1, 3)), ("settle", "works", (4, 2))])
        self.assertEqual(book.papers(), ((one, (("works", (1,)), ("works", (4,))), ((1,),), ((4,),)),
                                         (two, (), (), ())))
        book.do([("drop", "open", (2,)), ("put", "open", (3,)), ("put", "open", (1,))])
        self.assertEqual(book.papers(), ((one, (("open", (1,)), ("open", (2,)), ("open", (3,))), ((4,),), ()),
                                         (two, (("open", (1,)), ("open", (2,)), ("open", (3,))), ((2,),),
                                          ((1,), (3,)))))

    def test_kinds(self):
        book = Book(WORKS)
        book.keep(asked("[x] open(x |)"))
        book.put("open", (1,))
        found = book.papers()
        self.assertEqual([type(part) for part in (found, *found, *found[0])], [tuple, tuple, int, tuple, tuple, tuple])

    def test_before_the_first_list(self):
        book = Book(WORKS)
        book.keep(asked("[]"))
        self.assertEqual(book.papers(), ())
        self.assertEqual((book.undo(), book.redo(), book.papers()), (False, False, ()))
        with self.assertRaises(NoRow):
            book.put("none", ())
        self.assertEqual(book.papers(), ())
        self.assertEqual(book_with(("open", (1,))).papers(), ())

    def test_lists_that_change_nothing(self):
        for deeds in [[], [("drop", "open", (1,))], [("put", "open", (1,)), ("drop", "open", (1,))],
                      [("settle", "open", (2,))]]:
            book = book_with(("open", (2,)))
            book.keep(asked("[x] open(x |)"))
            book.keep(asked("[]"))
            book.do(deeds)
            self.assertEqual(book.papers(), ((1, (), (), ()), (2, (), (), ())))

    def test_questions_that_are_kept_at_this_time(self):
        book = Book(WORKS)
        book.put("open", (1,))
        self.assertEqual(book.papers(), ())
        one = book.keep(asked("[x] open(x |)"))
        self.assertEqual(book.papers(), ())
        book.put("open", (2,))
        paper = (one, (("open", (2,)),), (), ((2,),))
        two = book.keep(asked("[x] open(x |)"))
        self.assertEqual(book.papers(), (paper,))
        book.forget(one)
        self.assertEqual(book.papers(), (paper,))
        book.drop("open", (1,))
        self.assertEqual(book.papers(), ((two, (("open", (1,)),), ((1,),), ()),))
        book.forget(two)
        book.undo()
        self.assertEqual(book.papers(), ())

    def test_equal_questions(self):
        book = Book(WORKS)
        for _ in range(3):
            book.keep(asked("[x] open(x |)"))
        book.forget(2)
        book.put("open", (1,))
        self.assertEqual(book.papers(), tuple([(number, (("open", (1,)),), (), ((1,),)) for number in (1, 3)]))

    def test_undoing_and_redoing(self):
        book = Book(WORKS)
        number = book.keep(asked("[x] works(x | 2)"))
        book.do(put(*works((1, 2))))
        book.do(put(*works((1, 3), (4, 2))))
        places = (("works", (1,)), ("works", (4,)))
        forward, back = ((number, places, ((1,),), ((4,),)),), ((number, places, ((4,),), ((1,),)),)
        self.assertEqual(book.papers(), forward)
        self.assertIs(book.redo(), False)
        self.assertEqual(book.papers(), forward)
        book.undo()
        self.assertEqual(book.papers(), back)
        book.redo()
        self.assertEqual(book.papers(), forward)
        book.undo()
        book.undo()
        first = ((number, (("works", (1,)),), ((1,),), ()),)
        self.assertEqual(book.papers(), first)
        self.assertIs(book.undo(), False)
        self.assertEqual(book.papers(), first)
        book.do([])
        self.assertEqual(book.papers(), ((number, (), (), ()),))
        book.undo()
        self.assertEqual(book.papers(), ((number, (), (), ()),))

    def test_only_blocks_of_tables_that_the_question_names(self):
        book = Book(WORKS)
        numbers = [book.keep(asked(text)) for text in
                   ["[]", "none 0", "[] open(1 |)", "[] works(x | y)", "[] open(1 |); [] works(x | x)"]]
        book.do(put(("open", (1,)), *works((1, 2))))
        opened, working = ("open", (1,)), ("works", (1,))
        self.assertEqual(book.papers(), tuple(zip(numbers, [(), (), (opened,), (working,), (opened, working)], [()] * 5,
                                                  [(), (), ((),), ((),), ((),)])))

    def test_the_order_of_blocks(self):
        schema = (("a", 1, 1), ("b", 2, 0), ("c", 0, 1))
        book = Book(schema)
        book.keep(closed([atom("c", X)], [atom("b", X, Y)], [atom("a", X, Y)]))
        rows = [("a", ("z", 1)), ("a", (10, 1)), ("a", (9, 1)), ("a", ("b", 1)), ("b", (1, "a")), ("b", (1, 2)),
                ("b", (0, 3)),
                ("c", (3,)), ("c", (4,))]
        book.do(put(*rows))
        self.assertEqual(book.papers(), ((1, (("a", (9,)), ("a", (10,)), ("a", ("b",)), ("a", ("z",)), ("b", (0, 3)),
                                              ("b", (1, 2)),
                                              ("b", (1, "a")), ("c", ())), (), ((),)),))

    def test_papers_are_those_of_the_list_however_late_they_are_asked_for(self):
        book = Book(WORKS)
        book.keep(asked("[x] open(x |)"))
        book.put("open", (1,))
        book.put("open", (2,))
        book.forget(1)
        book.keep(asked("[]"))
        self.assertEqual(book.papers(), ((1, (("open", (2,)),), (), ((2,),)),))


class Model:
    """A book in the plainest way."""

    def __init__(self, schema):
        self.schema, self.done, self.undone, self.kept, self.given = schema, [set()], [], {}, 0
        self.last = ()

    def store(self):
        return store_of(*self.done[-1])

    def deed(self, facts, kind, fact):
        rivals = {other for other in facts
                  if other != fact and plain.place(self.schema, other) == plain.place(self.schema, fact)}
        if kind == "put":
            return facts | {fact}
        return facts if fact not in facts else facts - ({fact} if kind == "drop" else rivals)

    def do(self, deeds):
        before, facts, many = self.store(), self.done[-1], 0
        for kind, name, row in deeds:
            changed = self.deed(facts, kind, (name, row))
            many += changed != facts
            facts = changed
        self.done.append(facts)
        self.undone = []
        self.tell(before)
        return many

    def move(self, left, right):
        if len(left) < 1 + (left is self.done):
            return False
        before = self.store()
        right.append(left.pop())
        self.tell(before)
        return True

    def tell(self, before):
        after = self.store()
        old, new = plain.blocks(self.schema, before), plain.blocks(self.schema, after)
        places = sorted({place for place in {**old, **new} if old.get(place) != new.get(place)},
                        key=lambda place: (place[0], plain.rank(place[1])))
        papers = []
        for number, question in sorted(self.kept.items()):
            names = {name for _, body in question[1] for name, _ in body}
            rows, later = plain.sure(self.schema, before, question), plain.sure(self.schema, after, question)
            papers.append((number, tuple([place for place in places if place[0] in names]),
                           tuple([row for row in rows if row not in later]),
                           tuple([row for row in later if row not in rows])))
        self.last = tuple(papers)


class MadeUp(unittest.TestCase):
    def deed(self, chances, schema, values, store):
        kind = chances.pick(["put", "put", "drop", "settle"])
        name, key, rest = chances.pick(schema)
        if kind != "put" and store and chances.below(4):
            return (kind, *chances.pick(store))
        return (kind, name, tuple([chances.pick(values) for _ in range(key + rest)]))

    def step(self, chances, book, model, values):
        schema, kind = model.schema, chances.below(9)
        if kind < 4:
            deeds = [self.deed(chances, schema, values, model.store()) for _ in range(chances.below(5))]
            self.assertEqual(book.do(deeds), model.do(deeds))
        elif kind == 4:
            self.assertIs(book.undo(), model.move(model.done, model.undone))
        elif kind == 5:
            self.assertIs(book.redo(), model.move(model.undone, model.done))
        elif kind == 6:
            deed = self.deed(chances, schema, values, model.store())
            call = {"put": book.put, "drop": book.drop, "settle": book.settle}[deed[0]]
            self.assertIs(call(*deed[1:]), model.do([deed]) == 1)
        elif kind == 7 and len(model.kept) < 4:
            question = chances.question(schema, chances.below(3), ["x", "y"], values)
            model.given += 1
            model.kept[model.given] = question
            self.assertEqual(book.keep(question), model.given)
        elif model.kept:
            number = chances.pick(sorted(model.kept))
            if not chances.below(3):
                del model.kept[number]
                book.forget(number)

    def look(self, chances, book, model, values):
        schema, store = model.schema, model.store()
        self.assertEqual(book.whole_store, store)
        self.assertEqual(book.papers(), model.last)
        for number, question in model.kept.items():
            self.assertEqual(book.question(number), question)
            self.assertEqual(book.sure(number), plain.sure(schema, store, question))
            self.assertEqual(book.possible(number), plain.possible(schema, store, question))
            row = chances.pick(book.possible(number) + (tuple([chances.pick(values) for _ in range(question[0])]),))
            bearing = [row in plain.answers(mending, question) for mending in plain.mendings(schema, store)]
            self.assertEqual(book.share(number, row), (sum(bearing), len(bearing)))
            verdict, found = book.why(number, row)
            self.assertEqual(verdict == "sure", all(bearing))
            put_in = put_row(question, row)
            if verdict == "sure":
                self.assertTrue(judge_tree(schema, store, put_in, found))
            else:
                self.assertTrue(is_mending(schema, store, found) and not holds(found, put_in))
            block = book.next_block(number, row)
            depth = plain.least_depth(schema, store, put_in)
            self.assertEqual(block is None, depth == 0)
            if block is not None:
                lesser = [depth_of(best_strategy(schema, plain.with_choices(schema, store, {block: one}), put_in))
                          for one in plain.blocks(schema, store)[block]]
                self.assertEqual(max(lesser), depth - 1)
            gone = [chances.pick(store) for _ in range(chances.below(3)) if store]
            self.assertEqual(book.without(gone, number),
                             plain.sure(schema, store_of(*[fact for fact in store if fact not in gone]), question))

    def test_made_up_books(self):
        chances = Chances(31)
        for _ in range(25):
            schema = chances.schema(FORMS, 3)
            values = chances.pick([[1, 2], [1, "a", 3]])
            book, model = Book(schema), Model(schema)
            for _ in range(25):
                self.step(chances, book, model, values)
                if plain.number_of_mendings(schema, model.store()) > 24:
                    break
                self.look(chances, book, model, values)
            self.assertEqual(book.book_text(), Book.of_text(book.book_text()).book_text())
            self.assertEqual(book.whole_store, make_store(schema, list(book.whole_store)))


class ManyFacts(unittest.TestCase):
    def test_books_with_many_facts_and_questions(self):
        book = Book(WORKS)
        for at in range(40):
            book.keep((1, (join([X], atom("works", X, Y), atom("open", Y)), join([val(at)]))))
        for at in range(60):
            self.assertEqual(book.do(put(("open", (at,)), *works((at, at), (at, at + 1)))), 3)
        self.assertEqual(book.sure(7), tuple([(at,) for at in range(59)]))
        self.assertEqual([paper[3] for paper in book.papers()][:3], [((58,),)] * 3)
        for _ in range(60):
            self.assertIs(book.undo(), True)
        self.assertEqual(book.sure(7), ((6,),))


if __name__ == "__main__":
    unittest.main()

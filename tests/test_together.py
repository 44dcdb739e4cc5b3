"""What the modules tell of the same stores must go together, also where nobody looks at all mendings."""

import unittest

import plain
from everymending.asking import best_strategy, depth_of, judge_strategy
from everymending.attacks import plan_of, ring_of
from everymending.book import Book
from everymending.counting import bearing_at, count_bearing
from everymending.errors import NoPlan
from everymending.lots import smallest_lots
from everymending.mendings import count_mendings, exchanged, is_mending, mending_at, number_of
from everymending.plainly import answers, holds
from everymending.planning import judge_paper, reckon
from everymending.questions import check_question, put_row
from everymending.ranges import range_of, range_of_sums
from everymending.reading import read_book, read_question
from everymending.rewriting import sentence_of
from everymending.sentence_texts import read_sentence, write_sentence
from everymending.sentences import is_sentence, sentence_holds
from everymending.sure import possible_rows, share_of, sure_rows
from everymending.trees import decide, judge_tree
from everymending.walking import walk
from everymending.writing import write_book, write_question
from plain import Chances, join, var

FORMS = [(0, 0), (0, 1), (1, 0), (1, 1), (1, 1), (1, 2), (2, 1)]


class Together(unittest.TestCase):
    def setUp(self):
        self.seen = {}

    def see(self, what):
        self.seen[what] = self.seen.get(what, 0) + 1

    def plain_values(self, *found):
        """Only tuples, integers, words and the kinds of results; no True and no False in their places."""
        for part in found:
            self.assertIn(type(part), (tuple, int, str))
            if isinstance(part, tuple):
                self.plain_values(*part)

    def cases(self, seed, many):
        """Made-up stores, most of them with many mendings, and closed joins in which no table stands twice."""
        chances = Chances(seed)
        for _ in range(many):
            schema = chances.schema(FORMS, 4)
            values = list(range(2 + chances.below(6))) + ["a"]
            store = chances.store(schema, 10 + chances.below(30), values)
            body = chances.simple_body(schema, ["x", "y", "z", "u"], values)
            if body and count_mendings(schema, store) <= 10**6:
                yield chances, schema, store, join([], *body)

    def test_closed_questions(self):
        for _, schema, store, one in self.cases(71, 300):
            question = (0, (one,))
            check_question(schema, question)
            whole, bearing = count_mendings(schema, store), count_bearing(schema, store, question)
            verdict, found = decide(schema, store, question)
            self.see(verdict)
            self.assertEqual(verdict == "sure", bearing == whole)
            if verdict == "sure":
                self.assertTrue(judge_tree(schema, store, question, found))
            else:
                self.assertTrue(is_mending(schema, store, found))
                self.assertFalse(holds(found, question))
            self.assertEqual(sure_rows(schema, store, question), ((),) if bearing == whole else ())
            self.assertEqual(possible_rows(schema, store, question), ((),) if bearing else ())
            self.assertEqual(share_of(schema, store, question, ()), (bearing, whole))
            ranged = range_of(schema, store, question)
            self.assertEqual(ranged[::2], (int(bearing == whole), int(bearing > 0)))
            self.assertEqual([holds(mending, question) for mending in ranged[1::2]],
                             [number > 0 for number in ranged[::2]])
            if bearing:
                for n in (0, bearing - 1):
                    self.assertTrue(holds(bearing_at(schema, store, question, n), question))
            self.plain_values(found, whole, bearing, ranged)
        self.assertGreater(min(self.seen["sure"], self.seen["fails"]), 30)

    def test_lots_and_strategies(self):
        for chances, schema, store, one in self.cases(72, 600):
            question = (0, (one,))
            lots = smallest_lots(schema, store, question)
            if len(lots) > 15:
                continue
            for _ in range(10):
                mending = mending_at(schema, store, chances.below(count_mendings(schema, store)))
                self.assertEqual(any(set(lot) <= set(mending) for lot in lots), holds(mending, question))
            strategy = best_strategy(schema, store, question)
            self.assertTrue(judge_strategy(schema, store, question, strategy))
            depth = depth_of(strategy)
            self.assertEqual(depth == 0, count_bearing(schema, store, question) in (0, count_mendings(schema, store)))
            self.plain_values(lots, strategy, depth)
            self.see(min(3, depth))
        self.assertGreater(min([self.seen[depth] for depth in range(4)]), 3)

    def test_plans(self):
        for chances, schema, store, one in self.cases(73, 900):
            if plan_of(schema, one) is None:
                self.see("no plan")
                self.assertIsNotNone(ring_of(schema, one))
                for function in (lambda: reckon(schema, store, one), lambda: sentence_of(schema, one)):
                    self.assertRaises(NoPlan, function)
                continue
            verdict, found = reckon(schema, store, one)
            self.see(verdict)
            self.assertEqual(verdict, decide(schema, store, (0, (one,)))[0])
            start = mending_at(schema, store, chances.below(count_mendings(schema, store)))
            steps = walk(schema, store, one, start)
            self.assertEqual(steps is None, verdict == "sure")
            if steps is None:
                self.assertTrue(judge_paper(schema, store, one, found))
            else:
                self.assertFalse(holds(found, (0, (one,))))
                for old, new in steps:
                    self.assertIn(old, start)
                    start = exchanged(schema, start, new)
                self.assertFalse(holds(start, (0, (one,))))
            sentence = sentence_of(schema, one)
            self.assertEqual(sentence_holds(schema, store, sentence), verdict == "sure")
            self.assertTrue(is_sentence(schema, sentence))
            self.assertEqual(read_sentence(schema, write_sentence(schema, sentence)), sentence)
            self.plain_values(found, sentence)
        self.assertGreater(min([self.seen[what] for what in ("sure", "fails", "no plan")]), 10)

    def test_rows(self):
        for chances, schema, store, one in self.cases(74, 250):
            inside = sorted(set().union(*[plain.variables(terms) for _, terms in one[1]]))
            if not inside:
                continue
            head = tuple([var(chances.pick(inside)) for _ in range(1 + chances.below(2))])
            question = (len(head), ((head, one[1]),))
            check_question(schema, question)
            possible, certain = possible_rows(schema, store, question), sure_rows(schema, store, question)
            ranged, sums = range_of(schema, store, question), range_of_sums(schema, store, question, 0)
            self.assertTrue(len(certain) <= ranged[0] <= ranged[2] <= len(possible))
            for number, mending in (ranged[:2], ranged[2:]):
                self.assertEqual(len(answers(mending, question)), number)
            for number, mending in (sums[:2], sums[2:]):
                self.assertEqual(plain.sum_of(answers(mending, question), 0), number)
            mending = mending_at(schema, store, chances.below(count_mendings(schema, store)))
            rows = answers(mending, question)
            self.assertTrue(set(certain) <= set(rows) <= set(possible))
            self.assertTrue(ranged[0] <= len(rows) <= ranged[2])
            self.assertTrue(sums[0] <= plain.sum_of(rows, 0) <= sums[2])
            for row in possible[:3]:
                bearing, whole = share_of(schema, store, question, row)
                self.assertEqual((bearing > 0, bearing == whole), (True, row in certain))
                self.assertEqual(decide(schema, store, put_row(question, row))[0] == "sure", row in certain)
            self.plain_values(possible, certain, ranged, sums)
            self.see("some are sure" if certain else "none is sure")
        self.assertGreater(min(self.seen.values()), 20)

    def test_texts_and_books(self):
        for chances, schema, store, one in self.cases(75, 60):
            question = (0, (one, join([])))
            self.assertEqual(read_book(write_book(schema, store)), (schema, store))
            self.assertEqual(read_question(schema, write_question(schema, question)), question)
            book = Book(schema)
            number = book.keep((0, (one,)))
            self.assertEqual(book.do([("put", *fact) for fact in store]), len(store))
            self.assertEqual((book.whole_store, book.book_text()), (store, write_book(schema, store)))
            self.assertEqual(book.sure(number), sure_rows(schema, store, (0, (one,))))
            self.assertEqual(book.papers()[0][3], book.sure(number))
            chosen = mending_at(schema, store, chances.below(count_mendings(schema, store)))
            self.assertEqual(number_of(schema, store, chosen), number_of(schema, store, tuple(list(chosen))))
            book.do([("settle", *fact) for fact in chosen])
            self.assertEqual(book.whole_store, chosen)
            self.assertEqual(book.sure(number), answers(chosen, (0, (one,))))
            self.plain_values(book.papers(), book.whole_store)


if __name__ == "__main__":
    unittest.main()

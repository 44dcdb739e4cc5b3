import inspect
import unittest

from everymending import values
from everymending.values import compare_values, is_row, is_word, sorted_rows

LETTERS = "abcdefghijklmnopqrstuvwxyz"
NO_LETTERS = [chr(code) for code in range(32, 127) if chr(code) not in LETTERS] + ["\n", "\t"]

# Ascending, as [4] orders values. The great ones have more digits than Python shows.
GREAT = 10**5000
ORDERED = [
    -GREAT - 1, -GREAT, -GREAT + 1, -10**400, -10**30 - 1, -10**30, -2**64 - 1, -2**64, -2**63,
    -2**53 - 1, -2**53, -100, -99, -11, -10, -9, -2, -1, 0, 1, 2, 3, 9, 10, 11, 99, 100,
    2**53, 2**53 + 1, 2**61 - 1, 2**61, 2**63, 2**64, 2**64 + 1, 10**30, 10**30 + 1, 10**400,
    GREAT - 1, GREAT, GREAT + 1,
    "a", "aa", "aaa", "aab", "aaz", "ab", "aba", "abc", "abd", "az", "b", "ba", "bar", "barn",
    "bas", "c", "m", "word", "wordless", "words", "y", "z", "za", "zz", "zza",
]


def same_value_again(value):
    """An equal value that is another object."""
    if isinstance(value, int):
        return (value + 2**70) - 2**70
    return "".join(list(value))


def rows_in_order(ordered, length):
    """All rows of at most this length over the values, in the order of [4]."""
    found = [()]
    if length > 0:
        behind = rows_in_order(ordered, length - 1)
        for value in ordered:
            found.extend([(value,) + row for row in behind])
    return found


def mixed(rows, step):
    """The rows in another order; step has no divisor in common with their number."""
    return [rows[(at * step) % len(rows)] for at in range(len(rows))]


class Interface(unittest.TestCase):
    def test_functions_and_their_arguments(self):
        told = {"is_word": ["text"], "is_row": ["row"], "compare_values": ["left", "right"],
                "sorted_rows": ["rows"]}
        for name, arguments in told.items():
            with self.subTest(name=name):
                function = getattr(values, name)
                self.assertEqual(function.__module__, "everymending.values")
                self.assertEqual(list(inspect.signature(function).parameters), arguments)


class IsWord(unittest.TestCase):
    def test_words_of_one_letter(self):
        for letter in LETTERS:
            with self.subTest(letter=letter):
                self.assertIs(is_word(letter), True)

    def test_words_of_many_letters(self):
        words = ["aa", "ab", "az", "za", "zz", "bar", "shop", "table", "none", "var", "value",
                 "true", "not", LETTERS, LETTERS[::-1], "a" * 1000, "z" * 1000, LETTERS * 100]
        for word in words:
            with self.subTest(word=word):
                self.assertIs(is_word(word), True)

    def test_each_letter_at_each_place(self):
        for letter in LETTERS:
            for word in [letter + "mn", "m" + letter + "n", "mn" + letter]:
                with self.subTest(word=word):
                    self.assertIs(is_word(word), True)

    def test_the_empty_string(self):
        self.assertIs(is_word(""), False)

    def test_a_character_that_is_no_letter_alone(self):
        for sign in NO_LETTERS:
            with self.subTest(sign=sign):
                self.assertIs(is_word(sign), False)
                self.assertIs(is_word(sign + sign), False)

    def test_a_character_that_is_no_letter_at_each_place(self):
        for word in ["a", "ab", "shop", "works", LETTERS]:
            for sign in NO_LETTERS:
                for at in range(len(word) + 1):
                    text = word[:at] + sign + word[at:]
                    with self.subTest(text=text):
                        self.assertIs(is_word(text), False)

    def test_a_character_that_is_no_letter_in_a_long_string(self):
        for sign in NO_LETTERS:
            for at in [0, 1, 499, 500, 998, 999, 1000]:
                with self.subTest(sign=sign, at=at):
                    self.assertIs(is_word("q" * at + sign + "q" * (1000 - at)), False)

    def test_strings_with_several_faults(self):
        for text in ["12", "-1", "0", "  ", "\n\n", " a ", "\"a\"", "'a'", "A1", "WORD", "Word",
                     "wOrd", "worD", "two words", "two\nwords", "word\n", "\nword", "word\t", "a_b",
                     "a.b", "`{", "a`", "`a", "a{", "{a"]:
            with self.subTest(text=text):
                self.assertIs(is_word(text), False)


class IsRow(unittest.TestCase):
    def test_the_empty_row(self):
        self.assertIs(is_row(()), True)

    def test_integers_of_any_size_and_sign(self):
        numbers = [value for value in ORDERED if isinstance(value, int)]
        for at, number in enumerate(numbers):
            with self.subTest(at=at):
                self.assertIs(is_row((number,)), True)
                self.assertIs(is_row(("a", number, "b")), True)
        self.assertIs(is_row(tuple(numbers)), True)

    def test_words(self):
        for row in [("a",), ("z",), ("ann", "bar"), ("a", "a"), (LETTERS, "b", "a" * 1000)]:
            with self.subTest(row=row):
                self.assertIs(is_row(row), True)

    def test_integers_and_words(self):
        for row in [("ann", 3), (3, "ann"), (0, "a", -1, "b"), ("a", 0, "b", 10**30)]:
            with self.subTest(row=row):
                self.assertIs(is_row(row), True)

    def test_rows_of_many_values(self):
        for length in range(1, 30):
            with self.subTest(length=length):
                self.assertIs(is_row(tuple(range(length))), True)
                self.assertIs(is_row(("word",) * length), True)
                self.assertIs(is_row((1, "word") * length), True)

    def test_one_string_that_is_no_word_at_each_place(self):
        wrong = ["", "A", "1", " ", "\n", "a b", "Ann", "aNn", "anN", "ann1", "-1", "ann\n",
                 "ann\t", "\"ann\"", "`", "{", "a`", "a{", "1ann"]
        for length in [1, 2, 3, 4, 8, 9]:
            for filled in [("ann",) * length, (7,) * length, ("ann", 7, "bar") * length]:
                for at in range(length):
                    for text in wrong:
                        row = filled[:at] + (text,) + filled[at + 1:length]
                        with self.subTest(row=row):
                            self.assertIs(is_row(row), False)

    def test_only_strings_that_are_no_words(self):
        for row in [("", ""), ("A", "B"), ("1", "2", "3")]:
            with self.subTest(row=row):
                self.assertIs(is_row(row), False)


class CompareValues(unittest.TestCase):
    def check(self, left, right, result):
        found = compare_values(left, right)
        self.assertEqual(found, result)
        self.assertIs(type(found), int)

    def test_all_pairs(self):
        for i, left in enumerate(ORDERED):
            for j, right in enumerate(ORDERED):
                with self.subTest(i=i, j=j):
                    self.check(left, right, (i > j) - (i < j))

    def test_equal_values_that_are_other_objects(self):
        for i, value in enumerate(ORDERED):
            with self.subTest(i=i):
                self.check(value, same_value_again(value), 0)

    def test_integers_that_are_one_apart(self):
        for at, number in enumerate([-GREAT, -2**53, -2, -1, 0, 1, 9, 10, 2**53, 2**63, GREAT]):
            with self.subTest(at=at):
                self.check(number, number + 1, -1)
                self.check(number + 1, number, 1)
                self.check(number, number, 0)

    def test_results_that_are_not_the_difference(self):
        self.check(5, 100, -1)
        self.check(100, 5, 1)
        self.check("a", "z", -1)
        self.check("z", "a", 1)

    def test_each_integer_comes_before_each_word(self):
        for number in [-10**30, -1, 0, 1, 97, 122, 10**30]:
            for word in ["a", "z", "zz", "zero", "one"]:
                with self.subTest(number=number, word=word):
                    self.check(number, word, -1)
                    self.check(word, number, 1)

    def test_a_word_comes_before_a_longer_word_that_begins_with_it(self):
        for word in ["a", "z", "bar", "work", LETTERS]:
            for longer in [word + "a", word + "z", word + word, word + "aaaa"]:
                with self.subTest(word=word, longer=longer):
                    self.check(word, longer, -1)
                    self.check(longer, word, 1)

    def test_the_first_letter_that_differs_decides(self):
        for left, right in [("aaz", "aba"), ("azzzz", "b"), ("barn", "bb"), ("aaaaab", "aaaaac")]:
            with self.subTest(left=left, right=right):
                self.check(left, right, -1)
                self.check(right, left, 1)


class SortedRows(unittest.TestCase):
    def check(self, rows, result):
        before = list(rows)
        found = sorted_rows(rows)
        self.assertIs(type(found), list)
        self.assertTrue(all([type(row) is tuple for row in found]))
        self.assertTrue(found == result)
        self.assertTrue(rows == before)
        self.assertIsNot(found, rows)

    def test_the_empty_list(self):
        self.check([], [])

    def test_one_row(self):
        for row in [(), (1,), ("a",), (1, "a"), ("a", 1), (-1,) * 8]:
            with self.subTest(row=row):
                self.check([row], [row])

    def test_rows_that_stand_twice(self):
        self.check([(), ()], [()])
        self.check([(1,), (1,)], [(1,)])
        self.check([("b",), ("a",), ("b",)], [("a",), ("b",)])
        self.check([("b",), ("a",), ("b",), ("a",), ("b",)], [("a",), ("b",)])
        self.check([(2, "a"), (), (1, "a"), (2, "a"), (), (2, "a")], [(), (1, "a"), (2, "a")])
        self.check([("a", 1)] * 200, [("a", 1)])

    def test_equal_rows_that_are_other_objects(self):
        rows = [(same_value_again(10**30), same_value_again("word")) for at in range(5)]
        self.check(rows, [(10**30, "word")])

    def test_different_rows_are_all_kept(self):
        self.check([(-1,), (-2,)], [(-2,), (-1,)])
        self.check([(2**61 - 1,), (0,), (1,), (2**61,)], [(0,), (1,), (2**61 - 1,), (2**61,)])
        self.check([(1, 1), (1,), (1, 1, 1)], [(1,), (1, 1), (1, 1, 1)])
        self.check([("a", "b"), ("ab",), ("b", "a")], [("a", "b"), ("ab",), ("b", "a")])
        self.check([(1, 2), (2, 1), (12,), (1, 2)], [(1, 2), (2, 1), (12,)])
        self.check([(2**53 + 1,), (2**53,)], [(2**53,), (2**53 + 1,)])

    def test_the_empty_row_comes_first(self):
        self.check([(0,), ()], [(), (0,)])
        self.check([("a",), (-10**30,), ()], [(), (-10**30,), ("a",)])
        self.check([(), (-1, -1), ("a",)], [(), (-1, -1), ("a",)])

    def test_a_row_comes_before_a_longer_row_that_begins_with_it(self):
        for row in [(1,), ("a",), (5, "b"), ("b", -5), ("z", "z", "z")]:
            for more in [(-10**30,), (0,), ("a",), (-1, -1)]:
                with self.subTest(row=row, more=more):
                    self.check([row + more, row], [row, row + more])
                    self.check([row, row + more], [row, row + more])

    def test_the_first_value_that_differs_decides(self):
        pairs = [
            ((1, 9), (2, 0)),
            ((1, "z"), (2, 0)),
            ((1, "z", "z", "z"), (2,)),
            (("a", "z"), ("b", -5)),
            (("a", "z", "z"), ("b",)),
            ((5, 1, 9, 9), (5, 2, 0, 0)),
            (("a", "a", "z"), ("a", "b", "a")),
            (("a", 3, "c", 0, "z"), ("a", 3, "c", 1)),
            ((-2, 5), (-1, 4)),
            ((9,), (10,)),
            ((9, 1), (10, 0)),
            (("ab", "z"), ("b", "a")),
            (("a", "zz"), ("ab", "c")),
        ]
        for small, great in pairs:
            with self.subTest(small=small, great=great):
                self.check([small, great], [small, great])
                self.check([great, small], [small, great])

    def test_integers_and_words_at_the_same_place(self):
        for before in [(), (3,), ("b",), ("b", 3)]:
            for behind in [(), (0,), ("a",)]:
                small = before + (10**30,) + behind
                great = before + ("a",) + behind
                with self.subTest(before=before, behind=behind):
                    self.check([great, small], [small, great])
                    self.check([small, great], [small, great])

    def test_all_rows_over_some_values(self):
        ordered = rows_in_order([-10, -9, 0, 2, 10, "a", "ab", "b"], 3)
        self.assertEqual(len(ordered), 585)
        self.check(ordered, ordered)
        self.check(ordered[::-1], ordered)
        for step in [2, 7, 101, 292]:
            with self.subTest(step=step):
                rows = mixed(ordered, step)
                self.check(rows, ordered)
                self.check(rows + rows[::-1], ordered)

    def test_rows_of_each_single_value(self):
        ordered = [(value,) for value in ORDERED]
        self.check(ordered[::-1], ordered)
        self.check(mixed(ordered, 7), ordered)

    def test_a_changed_result_changes_nothing_else(self):
        lists = [[], [()], [(1,)], [("a", 1), ("b", 2)], [("b", 2), ("a", 1)],
                 [("b",), ("a",), ("b",)]]
        for rows in lists:
            with self.subTest(rows=rows):
                before = list(rows)
                first = sorted_rows(rows)
                expected = list(first)
                first.append(("zzz",))
                self.assertEqual(rows, before)
                self.assertEqual(sorted_rows(rows), expected)
                first.clear()
                self.assertEqual(rows, before)
                self.assertEqual(sorted_rows(rows), expected)
                self.assertEqual(sorted_rows(list(before)), expected)

    def test_a_changed_argument_does_not_change_the_result(self):
        for rows in [[], [("a",)], [("a",), ("b",)], [("b",), ("a",)]]:
            with self.subTest(rows=rows):
                found = sorted_rows(rows)
                expected = list(found)
                rows.append(("c",))
                self.assertEqual(found, expected)
                self.assertEqual(sorted_rows(rows), expected + [("c",)])
                rows.clear()
                self.assertEqual(found, expected)
                self.assertEqual(sorted_rows(rows), [])


if __name__ == "__main__":
    unittest.main()

import inspect
import unittest

from everymending import reading
from everymending.errors import BadText, MendError, NoQuestion
from everymending.questions import check_question
from everymending.reading import read_book, read_question
from everymending.schemas import check_schema
from everymending.writing import write_book, write_question
from plain import Chances, atom, join, store_of, val, var

LETTERS = "abcdefghijklmnopqrstuvwxyz"
GREAT = 10**60 - 1
X, Y, Z = var("x"), var("y"), var("z")

WORKS = (("open", 1, 0), ("works", 1, 1))
FORMS = (("best", 0, 1), ("far", 2, 2), ("none", 1, 0), ("open", 2, 0), ("rain", 0, 0),
         ("table", 1, 1), ("works", 1, 1))

# Characters that begin no token, wherever they stand.
NO_TOKENS = [chr(code) for code in range(33, 127)
             if not chr(code).isalnum() and chr(code) not in "\"-()[],;|"]
NO_TOKENS += list("ABCXYZ") + ["\t"]
# Texts whose first character begins no token, whatever stands behind them.
NO_TOKENS += ['""', '"A"', '"aB"', '"1"', '"a1"', '" a"', '"a "', '"a\t"', '"-1"', "- 1", "-a", "--1",
              "-(", "00", "01", "07", "-0", "-00", "-07", "-01", "000", "0123456789", "-\t1"]


def spaced(text):
    """The text with more spaces wherever there may be some."""
    for sign in '()[],;|':
        text = text.replace(sign, f"  {sign}   ")
    return "  " + text.replace(" ", "  ") + " "


def tight(text):
    """The text with no space that is not needed, as long as each space stands beside a sign."""
    for sign in '()[],;|':
        text = text.replace(" " + sign, sign).replace(sign + " ", sign)
    return text


class Reading(unittest.TestCase):
    def bad_book(self, text, line, at):
        with self.subTest(text=text):
            with self.assertRaises(BadText) as caught:
                read_book(text)
            self.assertEqual((caught.exception.line, caught.exception.at), (line, at))

    def bad_question(self, schema, text, at):
        with self.subTest(text=text):
            with self.assertRaises(BadText) as caught:
                read_question(schema, text)
            self.assertEqual((caught.exception.line, caught.exception.at), (0, at))

    def marked_book(self, before, *lines):
        """Each line has the sign ^ before the character that is told."""
        head = before + "\n" if before else ""
        for line in lines:
            at = line.index("^")
            self.bad_book(head + line[:at] + line[at + 1:], head.count("\n"), at)

    def marked_question(self, schema, *texts):
        for text in texts:
            at = text.index("^")
            self.bad_question(schema, text[:at] + text[at + 1:], at)

    def not_valid(self, schema, text, at):
        with self.subTest(text=text):
            with self.assertRaises(NoQuestion) as caught:
                read_question(schema, text)
            self.assertEqual(caught.exception.join, at)


class Interface(unittest.TestCase):
    def test_functions_and_their_arguments(self):
        for name, arguments in {"read_book": ["text"], "read_question": ["schema", "text"]}.items():
            function = getattr(reading, name)
            self.assertEqual(function.__module__, "everymending.reading")
            self.assertEqual(list(inspect.signature(function).parameters), arguments)

    def test_errors_are_of_the_program(self):
        for call in [lambda: read_book("("), lambda: read_question((), "("),
                     lambda: read_question((), "[x]")]:
            self.assertRaises(MendError, call)


class Books(Reading):
    def check(self, text, schema, store):
        with self.subTest(text=text):
            self.assertEqual(read_book(text), (schema, store))

    def test_the_examples(self):
        self.check('table works 1 1\nworks("ann" | "bar")\nworks("ann" | "shop")',
                   (("works", 1, 1),), (("works", ("ann", "bar")), ("works", ("ann", "shop"))))

    def test_kinds_of_what_is_returned(self):
        found = read_book('table best 0 1\ntable works 1 1\nbest(| 5)\nworks(1 | "a")')
        self.assertIs(type(found), tuple)
        schema, store = found
        self.assertEqual([type(part) for part in (schema, schema[0], store, store[0], store[0][1])],
                         [tuple] * 5)
        self.assertEqual([type(value) for value in schema[0]], [str, int, int])
        self.assertEqual([type(value) for value in store[1][1]], [int, str])

    def test_texts_with_no_token(self):
        for text in ["", " ", "      ", "\n", "\n\n\n", " \n  \n", "  \n", "\n "]:
            self.check(text, (), ())

    def test_each_form_of_a_fact(self):
        for table, line, row in [
                ("works 1 1", 'works("ann" | "shop")', ("ann", "shop")), ("rain 0 0", "rain(|)", ()),
                ("open 2 0", 'open("bar", 3 |)', ("bar", 3)), ("best 0 1", "best(| 5)", (5,)),
                ("best 0 3", 'best(| 5, "a", -1)', (5, "a", -1)),
                ("far 2 2", 'far(0, "z" | "z", 0)', (0, "z", "z", 0)),
                ("a 8 0", "a(1, 2, 3, 4, 5, 6, 7, 8 |)", (1, 2, 3, 4, 5, 6, 7, 8)),
                ("b 0 8", "b(| 1, 2, 3, 4, 5, 6, 7, 8)", (1, 2, 3, 4, 5, 6, 7, 8)),
                ("c 4 4", "c(1, 2, 3, 4 | 5, 6, 7, 8)", (1, 2, 3, 4, 5, 6, 7, 8))]:
            name, key, rest = table.split()
            schema = ((name, int(key), int(rest)),)
            for text in [line, spaced(line), tight(line)]:
                self.check(f"table {table}\n{text}", schema, ((name, row),))

    def test_values(self):
        for value, text in [(0, "0"), (1, "1"), (-1, "-1"), (10, "10"), (-10, "-10"), (9, "9"),
                            (100, "100"), (2**64, str(2**64)), (GREAT, "9" * 60),
                            (-GREAT, "-" + "9" * 60), (10**59, "1" + "0" * 59), ("a", '"a"'),
                            ("z" * 300, '"' + "z" * 300 + '"'), (LETTERS, f'"{LETTERS}"'),
                            ("table", '"table"'), ("none", '"none"'), ("x", '"x"')]:
            self.check(f"table t 0 1\nt(| {text})", (("t", 0, 1),), (("t", (value,)),))
            self.check(f"table t 1 0\nt({text}|)", (("t", 1, 0),), (("t", (value,)),))
            self.check(f"table t 1 1\nt({text}|{text})", (("t", 1, 1),), (("t", (value, value)),))

    def test_words_as_names(self):
        for name in ["table", "none", "a", "z" * 500, LETTERS, "var", "value"]:
            self.check(f'table {name} 1 0\n{name}("{name}" |)', ((name, 1, 0),), ((name, (name,)),))
            self.check(f"table {name} 0 0\n{name}(|)", ((name, 0, 0),), ((name, ()),))

    def test_tables_in_any_order(self):
        self.check("table works 1 1\ntable open 1 0", WORKS, ())
        self.check("table b 1 0\ntable c 1 1\ntable a 0 0", (("a", 0, 0), ("b", 1, 0), ("c", 1, 1)), ())
        self.check("table ab 1 0\ntable b 0 0\ntable a 0 0\ntable aa 0 1",
                   (("a", 0, 0), ("aa", 0, 1), ("ab", 1, 0), ("b", 0, 0)), ())

    def test_twenty_tables_and_all_their_forms(self):
        forms = [(key, rest) for key in range(9) for rest in range(9 - key)]
        for start in range(0, len(forms), 20):
            schema = tuple([(LETTERS[at], key, rest)
                            for at, (key, rest) in enumerate(forms[start:start + 20])])
            lines = [f"table {name} {key} {rest}" for name, key, rest in schema]
            self.check("\n".join(lines), schema, ())
            self.check("\n".join(lines[::-1]), schema, ())

    def test_facts_in_any_order(self):
        lines = ['works("ann" | "shop")', "works(10 | 1)", "works(9 | 1)", 'works("ann" | "bar")',
                 'works("ann" | 5)', "works(-10 | 1)", "works(-9 | 1)", 'open("a" |)', "open(3 |)"]
        store = (("open", (3,)), ("open", ("a",)), ("works", (-10, 1)), ("works", (-9, 1)),
                 ("works", (9, 1)), ("works", (10, 1)), ("works", ("ann", 5)),
                 ("works", ("ann", "bar")), ("works", ("ann", "shop")))
        for order in [lines, lines[::-1], lines[4:] + lines[:4], sorted(lines)]:
            self.check("\n".join(["table works 1 1", "table open 1 0"] + order), WORKS, store)

    def test_facts_that_stand_several_times(self):
        lines = ['works("ann"|"bar")', 'works("ann" | "bar")', "works ( 1 | 2 )", 'works("ann"| "bar" )']
        store = (("works", (1, 2)), ("works", ("ann", "bar")))
        self.check("\n".join(["table works 1 1"] + lines * 3), (("works", 1, 1),), store)
        self.check("table rain 0 0\nrain(|)\nrain( | )", (("rain", 0, 0),), (("rain", ()),))

    def test_tables_behind_facts_of_others(self):
        self.check("table works 1 1\nworks(1 | 2)\ntable open 1 0\nopen(2 |)\nworks(0 | 1)\ntable a 0 0",
                   (("a", 0, 0),) + WORKS,
                   (("open", (2,)), ("works", (0, 1)), ("works", (1, 2))))

    def test_lines_of_nothing_but_spaces(self):
        self.check("\n  \ntable works 1 1\n\n \n   \nworks(1 | 2)\n     \n\n",
                   (("works", 1, 1),), (("works", (1, 2)),))

    def test_spaces(self):
        self.check("   table   works   1   1   ", (("works", 1, 1),), ())
        self.check('table works 1 1\n works ( "ann"|"bar")', (("works", 1, 1),),
                   (("works", ("ann", "bar")),))
        self.check('table far 2 2\nfar(1,2|3,4)\n far ( 1 , -2 | "a" ,4 ) ', (("far", 2, 2),),
                   (("far", (1, -2, "a", 4)), ("far", (1, 2, 3, 4))))

    def test_tokens_that_need_no_space(self):
        self.check("table works1 1\nworks(1|2)", (("works", 1, 1),), (("works", (1, 2)),))
        self.check("table works 0 1", (("works", 0, 1),), ())

    def test_a_table_with_the_name_table(self):
        schema = (("table", 1, 1), ("works", 1, 0))
        self.check('table table 1 1\ntable(1 | 2)\ntable ("a" | "table")\ntable works 1 0\nworks(1|)',
                   schema, (("table", (1, 2)), ("table", ("a", "table")), ("works", (1,))))
        self.check("table table 0 0\ntable(|)", (("table", 0, 0),), (("table", ()),))

    def test_what_is_written_is_read(self):
        values = [0, 1, -1, 12, GREAT, -GREAT, "a", "none", "table"]
        chances = Chances(1)
        for _ in range(200):
            schema = chances.schema([(0, 0), (0, 2), (1, 0), (1, 1), (3, 1), (0, 1), (2, 6)], 8)
            store = chances.store(schema, chances.below(30), values)
            check_schema(schema)
            text = write_book(schema, store)
            tables, facts = text.split("\n")[:len(schema)], text.split("\n")[len(schema):]
            mixed = tables[::-1] + facts[::-1] + facts[:3]
            for form in [text, "\n".join(mixed), "\n".join([spaced(line) for line in mixed]),
                         "\n\n".join(tables + [tight(line) for line in facts]) + "\n"]:
                self.assertEqual(read_book(form), (schema, store))

    def test_the_state_of_one_text_is_not_that_of_another(self):
        read_book("table works 1 1\nworks(1 | 1)")
        self.check("table works 0 0", (("works", 0, 0),), ())
        self.bad_book("works(1 | 1)", 0, 0)


class BadBooks(Reading):
    def test_first_tokens(self):
        self.marked_book("", "^works(1 | 2)", "^foo", "^x 1", "^(", "^1", '^"table" works 1 1', "^|",
                         "^[", "^tables a 1 1", "  ^works", "^none 1", "^t", "^tabl e 1 1", "^;")
        self.marked_book("table works 1 1", "^work(1 | 2)", "^workss(1 | 2)", "^(1 | 2)", '^"works"(1 | 2)',
                         "   ^open(1 |)", "^1", "^wor ks(1 | 2)")

    def test_lines_of_tables(self):
        self.marked_book("", "table^", "table  ^", "table works^", "table works 1^", "table works 1  ^",
                         "table works 1 1 ^1", "table works 1 1 ^x", "table works ^x 1",
                         'table works ^"a" 1', "table works 1 ^a", 'table works 1 ^"a"', "table works ^| 1",
                         "table works ^(1 | 1)", "table works 1 1^(", "table works 1^, 1", "table ^1 1",
                         'table ^"works" 1 1', "table ^(", "table ^(1 | 1)", "table ^|", "table ^[x]",
                         "table works 1 1 ^table", "table works ^table 1 1", "table works 1^|1")

    def test_numbers_of_columns(self):
        self.marked_book("", "table a ^-1 1", "table a 1 ^-1", "table a 0 ^-2", "table a ^9 0", "table a ^10 0",
                         "table a 8 ^1", "table a 0 ^9", "table a 4 ^5", "table a 5 ^4", "table a 1 ^8",
                         "table a ^" + "9" * 60 + " 1", "table a 1 ^" + "9" * 60,
                         "table a 1 ^-" + "9" * 60, "table a ^11", "table a 1^-1", "table a ^-1")

    def test_names_that_stand_twice(self):
        self.marked_book("table works 1 1", "table ^works 1 1", "table ^works 0 0", " table  ^works",
                         "table ^works(", "table ^works )")
        self.marked_book("table works 1 1\ntable open 1 0\nworks(1 | 1)", "table ^open 1 0",
                         "table ^works 1 1")
        self.marked_book("table table 1 0", "table ^table 1 0", "table ^table(1 |)")

    def test_facts(self):
        self.marked_book(
            "table far 2 2", "far^", "far ^", "far  ^1", "far ^[", "far^|", "far ^far", "far(^", "far( ^",
            "far(^x", "far(^far", "far(^|", "far(^)", "far(^,", "far(^(", "far(1^", "far(1^|", "far(1 ^|",
            "far(1^)", "far(1 ^2", "far(1,^", "far(1, ^,", "far(1, ^x", "far(1, 2^", "far(1, 2^,",
            "far(1, 2^)", "far(1, 2 ^3", "far(1, 2 |^", "far(1, 2 | ^|", "far(1, 2 | ^)", "far(1, 2 | ^,",
            "far(1, 2 | 3^", "far(1, 2 | 3^)", "far(1, 2 | 3^|", "far(1, 2 | 3, ^)", "far(1, 2 | 3, ^x",
            "far(1, 2 | 3, 4^", "far(1, 2 | 3, 4 ^", "far(1, 2 | 3, 4^, 5)", "far(1, 2 | 3, 4 ^| 5",
            "far(1, 2 | 3, 4 ^5)", "far(1, 2 | 3, 4) ^far(1, 2 | 3, 4)", "far(1, 2 | 3, 4)^)",
            "far(1, 2 | 3, 4)^,", "far(1, 2 | 3, 4) ^;", "far(1, 2 | 3, 4)^|", "far(1, 2 | 3, 4)  ^5",
            'far("a", 2 | 3, "b") ^"c"', "far(1, 2 ^]", "far(1, ^[", "far ^table(")

    def test_facts_without_key_columns_or_without_others(self):
        self.marked_book("table rain 0 0", "rain(^", "rain(^)", "rain(^1", "rain(|^", "rain(|^1", "rain(|^,",
                         "rain(|^|", "rain(|)^)", "rain(| ^x")
        self.marked_book("table best 0 1", "best(^5", "best(^)", "best(|^)", "best(|5^,", "best(|^", "best(^x")
        self.marked_book("table open 2 0", "open(^|", "open(1^|", "open(1, 2^,", "open(1, 2^)",
                         "open(1, 2 |^3", "open(1, 2 |^,", "open(1, 2 |^", "open(1, 2 | ^")

    def test_facts_before_their_tables(self):
        self.bad_book("works(1 | 2)\ntable works 1 1", 0, 0)
        self.bad_book("table open 1 0\nopen(1 |)\n works(1 | 2)\ntable works 1 1", 2, 1)

    def test_the_word_table_at_the_beginning(self):
        self.marked_book("table works 1 1", "table ^(", "table^(1 | 2)", "table ^|", "table^",
                         "table ^works(1 | 2)", "table ^1", 'table ^"a"')
        self.marked_book("table table 1 1", "table(^", "table(1^)", "table ^1", "table ^|", 'table ^"a"', "table^",
                         "table   ^", "table ^)", "table(1 | 2) ^x", "table (^x | 2)")
        self.bad_book("table (1 | 2)\ntable table 1 1", 0, 6)

    def test_characters_that_begin_no_token(self):
        for text in NO_TOKENS:
            for before in ["", " ", "table ", "table works ", "table works 1 ", "table works 1 1 "]:
                self.bad_book(before + text, 0, len(before))
                self.bad_book(before + text + " 1 1", 0, len(before))
                self.bad_book("\n \n" + before + text, 2, len(before))
            for before in ["works", "works(", "works( ", "works(1 ", "works(1 |", "works(1 | 2 ",
                           "works(1 | 2)", "works(1 | 2) "]:
                self.bad_book("table works 1 1\n" + before + text, 1, len(before))

    def test_quotes_that_do_not_belong_together(self):
        for text in ['"', '"a', '"a\n', '"a b"', '"a|', '"a,"', "\"a'"]:
            before = "table works 1 1\nworks("
            self.bad_book(before + text, 1, 6)
        self.bad_book('table works 1 1\nworks("a"" | 2)', 1, 9)
        self.bad_book('table works 1 1\nworks("a"b" | 2)', 1, 9)

    def test_integers_with_needless_zeros(self):
        for text in ["00", "01", "007", "-0", "-00", "-01", "0" * 61, "-" + "0" * 60 + "1"]:
            self.bad_book(f"table a {text} 0", 0, 8)
            self.bad_book(f"table a 0 {text}", 0, 10)
            self.bad_book(f"table a 1 0\na({text} |)", 1, 2)
        self.bad_book("table a 1 0\na(1-0 |)", 1, 3)

    def test_tokens_that_grow_together(self):
        self.bad_book("tableworks 1 1", 0, 0)
        self.bad_book("table works 11", 0, 12)
        self.bad_book("table works 01", 0, 12)
        self.bad_book("table works 1 1\nworks(1|2)works", 1, 10)
        self.bad_book("table works 1 1\nworks(12)", 1, 8)
        self.bad_book("table far 2 2\nfar(1 -2 | 3, 4)", 1, 6)
        self.bad_book("table far 2 2\nfar(1-2 | 3, 4)", 1, 5)

    def test_whichever_comes_first(self):
        self.bad_book("table works 1 1\nfoo(%", 1, 0)
        self.bad_book("table works 1 1\nworks(% x", 1, 6)
        self.bad_book("table works 1 1\nworks(x %", 1, 6)
        self.bad_book("table works 9 %", 0, 12)
        self.bad_book("table works 8 % 1", 0, 14)
        self.bad_book("table works 1 1 %", 0, 16)
        self.bad_book("%\ntable works 1 1", 0, 0)
        self.bad_book("table works 1 1\nworks(1 |\nworks(%", 1, 9)
        self.bad_book("table works 1 1\n\n%\n%", 2, 0)

    def test_tabs_are_no_spaces(self):
        self.bad_book("\t", 0, 0)
        self.bad_book("  \t", 0, 2)
        self.bad_book("table\tworks 1 1", 0, 5)
        self.bad_book("table works 1 1\n\t", 1, 0)
        self.bad_book("table works 1 1\nworks(1\t| 2)", 1, 7)

    def test_tokens_do_not_go_on_in_the_next_line(self):
        self.bad_book("table works 1\n1", 0, 13)
        self.bad_book("table\nworks 1 1", 0, 5)
        self.bad_book("table works 1 1\nworks(1 |\n2)", 1, 9)

    def test_each_line_is_told(self):
        for many in range(6):
            for skipped in ["", "   ", "rain(|)", "table {} 1 0"]:
                lines = [skipped.format(letter) for letter in LETTERS[:many]]
                self.bad_book("\n".join(["table rain 0 0"] + lines + ["rain()"]), many + 1, 5)

    def test_each_beginning_of_a_line(self):
        tokens = ["far", "(", "1", ",", '"a"', "|", "-2", ",", "0", ")"]
        for many in range(1, len(tokens)):
            for glue in ["", " ", "   "]:
                line = glue.join(tokens[:many])
                self.bad_book("table far 2 2\n" + line, 1, len(line))
                self.bad_book("table far 2 2\n" + line + "  ", 1, len(line) + 2)
                for wrong in ["]", "[", ";", "x", "none"]:
                    self.bad_book(f"table far 2 2\n{line} {wrong}", 1, len(line) + 1)

    def test_long_texts(self):
        self.bad_book("table a 1 0\n" + "a(1 |)\n" * 2000 + "a(1 |", 2001, 5)
        self.bad_book(" " * 19990 + "x", 0, 19990)


class Questions(Reading):
    def check(self, schema, text, question):
        for form in [text, spaced(text), tight(text)]:
            with self.subTest(text=form):
                self.assertEqual(read_question(schema, form), question)

    def test_examples_of_the_document(self):
        schema = (("open", 2, 0), ("works", 1, 1))
        self.check(schema, '[x, "a"] works(x | y), open(y, 3 |)',
                   (2, (join([X, val("a")], atom("works", X, Y), atom("open", Y, val(3))),)))
        self.check(schema, "[]", (0, (join([]),)))
        self.check(WORKS, "[x] works(x | y), open(y |)",
                   (1, (join([X], atom("works", X, Y), atom("open", Y)),)))

    def test_kinds_of_what_is_returned(self):
        question = read_question(WORKS, "[x, 1] works(x | 2)")
        width, joins = question
        head, body = joins[0]
        self.assertEqual([type(part) for part in (question, joins, joins[0], head, head[0], body,
                                                  body[0], body[0][1], body[0][1][0])], [tuple] * 9)
        self.assertIs(type(width), int)
        self.assertEqual([type(term[1]) for term in head], [str, int])

    def test_questions_without_joins(self):
        for schema in [(), WORKS, FORMS]:
            for width in range(9):
                self.check(schema, f"none {width}", (width, ()))
                self.assertEqual(read_question(schema, f"none{width}"), (width, ()))

    def test_heads(self):
        for head, text in [([], ""), ([X], "x"), ([val(1)], "1"), ([val("x")], '"x"'), ([X, X], "x, x"),
                           ([X, val(-5), Y, val("a")], 'x, -5, y, "a"'), ([Y, X], "y, x"),
                           ([val(0)] * 8, "0, 0, 0, 0, 0, 0, 0, 0"), ([X] * 8, "x, x, x, x, x, x, x, x")]:
            self.check(WORKS, f"[{text}] works(x | y)", (len(head), (join(head, atom("works", X, Y)),)))
            self.check(WORKS, f"[{text}] works(x | y); [{text}] works(y | x)",
                       (len(head), (join(head, atom("works", X, Y)), join(head, atom("works", Y, X)))))

    def test_later_heads_have_other_terms(self):
        self.check(WORKS, '[x, 1] works(x | y); [2, "a"]; [y, y] open(y |)',
                   (2, (join([X, val(1)], atom("works", X, Y)), join([val(2), val("a")]),
                        join([Y, Y], atom("open", Y)))))

    def test_bodies(self):
        self.check(FORMS, "[] rain(|)", (0, (join([], atom("rain")),)))
        self.check(FORMS, "[] best(| x), far(x, y | 1, \"a\"), open(x, x |), rain(|), works(-1 | z)",
                   (0, (join([], atom("best", X), atom("far", X, Y, val(1), val("a")), atom("open", X, X),
                             atom("rain"), atom("works", val(-1), Z)),)))
        self.check(WORKS, "[] works(x | x), works(x | x)",
                   (0, (join([], atom("works", X, X), atom("works", X, X)),)))

    def test_most_joins_and_atoms(self):
        body = ", ".join(["works(x | y)", "open(z |)"] * 4)
        parsed = join([X], *([atom("works", X, Y), atom("open", Z)] * 4))
        self.check(WORKS, "; ".join(["[x] " + body] * 8), (1, (parsed,) * 8))

    def test_joins_without_atoms(self):
        self.check((), "[]; []; []", (0, (join([]),) * 3))
        self.check(WORKS, "[1]; [2] open(2 |); [3]",
                   (1, (join([val(1)]), join([val(2)], atom("open", val(2))), join([val(3)]))))

    def test_words_as_names_and_variables_and_values(self):
        for name in ["table", "none"]:
            schema = ((name, 1, 1),)
            self.check(schema, f'[{name}, "{name}"] {name}({name} | "{name}")',
                       (2, (join([var(name), val(name)], atom(name, var(name), val(name))),)))
        self.check(WORKS, "[works] works(works | open), open(works |)",
                   (1, (join([var("works")], atom("works", var("works"), var("open")),
                             atom("open", var("works"))),)))

    def test_values(self):
        for value, text in [(0, "0"), (-1, "-1"), (GREAT, "9" * 60), (-GREAT, "-" + "9" * 60),
                            ("a", '"a"'), (LETTERS, f'"{LETTERS}"')]:
            self.check(WORKS, f"[{text}] works({text} | {text})",
                       (1, (join([val(value)], atom("works", val(value), val(value))),)))

    def test_tokens_that_need_no_space(self):
        self.assertEqual(read_question(WORKS, "[x]works(x|y),open(y|);[y]open(y|)"),
                         read_question(WORKS, "[x] works(x | y), open(y |); [y] open(y |)"))

    def test_what_is_written_is_read(self):
        values = [0, 1, -1, GREAT, -GREAT, "a", "none", "table"]
        names = ["x", "y", "none", "table", "a"]
        chances = Chances(2)
        for _ in range(300):
            schema = chances.schema([(0, 0), (0, 2), (1, 0), (1, 1), (3, 1)], 8)
            width = chances.below(9)
            joins = []
            for _ in range(chances.below(9)):
                body = chances.body(schema, chances.below(9), names, values)
                terms = [term for _, inside in body for term in inside] + [val(3)]
                joins.append(([chances.pick(terms) for _ in range(width)], body))
            question = (width, tuple([(tuple(head), body) for head, body in joins]))
            check_question(schema, question)
            self.check(schema, write_question(schema, question), question)


class BadQuestions(Reading):
    def test_first_tokens(self):
        for schema in [(), WORKS]:
            self.marked_question(schema, "^", " ^", "    ^", "^works(x | y)", "^x", "^1", '^"a"', "^]", "^;",
                                 "^(", "^,", "  ^nones 1", "^non e", "^|", '^"none" 1')

    def test_questions_without_joins(self):
        for schema in [(), WORKS, FORMS]:
            self.marked_question(schema, "none^", "none  ^", "none ^-1", "none ^-" + "9" * 60, "none ^x",
                                 'none ^"a"', "none ^[]", "none ^(1 |)", "none 1 ^1", "none 1^;", "none 0 ^[]",
                                 "none 1^;[]", "none 3  ^x", "none ^,", "none ^none 1", "none 99 ^1")

    def test_heads(self):
        self.marked_question(WORKS, "[^", "[ ^", "[^[", "[^,", "[^;", "[^|", "[^(", "[x^", "[x ^", "[x ^y", "[x ^1",
                             "[x^;", "[x^[", "[x^|", "[x^(", "[x,^", "[x, ^", "[x, ^]", "[x, ^,", "[x, ^;", "[x, y^",
                             "[1^", '["a"^', '["a" ^"b"', "[1 ^-1", "[x]^]", "[x] ^[", "[x] ^,", "[x] ^1",
                             '[x] ^"works"', "[x] ^(", "[x] ^)", "[x] ^|")

    def test_joins_behind_the_first(self):
        self.marked_question(WORKS, "[];^", "[]; ^", "[]; ^;", "[]; ^x", "[]; ^]", "[]; ^none 0", "[]; ^works(x | y)",
                             "[]; [^x", "[]; [^x]", "[]; [^1]", "[]; [^,", "[]; [^", "[]; [ ^", "[]; [^[",
                             "[x]; [^", "[x]; [^]", "[x]; [^,", "[x]; [x^,", "[x]; [x ^y", "[x]; [x^", "[x]; [x^;",
                             "[x]; [1] ^1", "[x]; [1]^]", "[1, 2]; [x^]", "[1, 2]; [x, ^]", "[1, 2]; [x, y^,",
                             "[1, 2]; [x ^y", "[1, 2]; [1, 2]; [1, 2^, 3]", "[1, 2]; [1, 2]; [1^]",
                             "[x] works(x | y); ^", "[x] works(x | y), ^;", "[x] works(x | y); ^,",
                             "[x] works(x | y);^;")

    def test_heads_longer_than_a_question_may_have(self):
        head = ", ".join(["x"] * 12)
        self.marked_question(WORKS, f"[{head}]; [{head}^, x]", f"[{head}]; [x^]", f"[{head}^", f"[{head},^",
                             f"[{head}]; [{head}]; [{head} ^x")

    def test_atoms(self):
        self.marked_question(
            WORKS, "[] ^x", "[] ^foo(x | y)", "[] ^none(x |)", "[] ^table(x |)", "[] works^", "[] works ^",
            "[] works ^works", "[] works^[", "[] works^|", "[] works(^", "[] works(^|", "[] works(^)", "[] works(^,",
            "[] works(^(", "[] works(x^", "[] works(x^,", "[] works(x ^y", "[] works(x^)", "[] works(x |^",
            "[] works(x |^)", "[] works(x | ^|", "[] works(x | ^,", "[] works(x | y^", "[] works(x | y ^",
            "[] works(x | y^, z)", "[] works(x | y^|", "[] works(x | y ^z)", "[] works(x | y^]",
            "[] works(x | y)^)", "[] works(x | y) ^works(x | y)", "[] works(x | y) ^x", "[] works(x | y)^|",
            "[] works(x | y) ^[", "[] works(x | y)^]", "[] works(x | y),^", "[] works(x | y), ^,",
            "[] works(x | y), ^y", "[] works(x | y), ^[", "[] works(x | y), ^;", "[] works(x | y), ^1",
            "[] works(x | y) ^1", "[] open(x^,", "[] open(x |^x", "[] open(x |^,", "[] open(^|",
            "[] open(x |), open(^|", "[]; [] ^x", "[]; [] works(x |^)", '[] open("x"^)', "[] open(^[")

    def test_atoms_of_tables_without_columns(self):
        self.marked_question(FORMS, "[] rain(^", "[] rain(^x", "[] rain(^)", "[] rain(|^x", "[] rain(|^|",
                             "[] best(^x", "[] best(|^)", "[] best(| x^,", "[] none(x^)", "[] table(x|^")

    def test_schemas_without_tables(self):
        self.marked_question((), "[] ^works(x | y)", "[x] ^x", "[]; [] ^table(", "[] ^none 1", "[] ^,")

    def test_the_example(self):
        self.bad_question(WORKS, "[x] works(x, y)", 11)

    def test_characters_that_begin_no_token(self):
        for text in NO_TOKENS + ["\n", "\n[]"]:
            for before in ["", "  ", "none ", "none 1 ", "[", "[ ", "[x ", "[x, ", "[] ", "[] works", "[] works ",
                           "[] works(", "[] works(x ", "[] works(x |", "[] works(x | y ", "[] works(x | y)",
                           "[] works(x | y), ", "[]; ", "[]; ["]:
                self.bad_question(WORKS, before + text, len(before))
                self.bad_question(WORKS, before + text + " x", len(before))

    def test_newlines_begin_no_token(self):
        for text in ["^\n", "^\n[]", "[]^\n", "[] ^\n ", "[x^\n] works(x | y)", "[x] ^\nworks(x | y)", "none 1^\n",
                     "none^\n1", "[]^\n; []"]:
            self.marked_question(WORKS, text)

    def test_quotes_that_do_not_belong_together(self):
        for text in ['"', '"a', '"a]', '"a b"', '"a"b"', '"a, "b"']:
            if text == '"a"b"':
                self.bad_question(WORKS, f"[{text}]", 4)
                self.bad_question(WORKS, f"[] open({text} |)", 11)
            else:
                self.bad_question(WORKS, f"[{text}]", 1)
                self.bad_question(WORKS, f"[] open({text} |)", 8)

    def test_whichever_comes_first(self):
        self.bad_question(WORKS, "[] foo(%", 3)
        self.bad_question(WORKS, "[] works(x, %", 10)
        self.bad_question(WORKS, "[] works(% x", 9)
        self.bad_question(WORKS, "none -1 %", 5)
        self.bad_question(WORKS, "none 1 % 1", 7)
        self.bad_question(WORKS, "[x]; [x, %", 7)
        self.bad_question(WORKS, "[x]; [% x", 6)

    def test_bad_texts_come_before_questions_that_are_not_valid(self):
        for text in ["[x^", "[x] open(y |) ^x", "none 9 ^1", "[x]; [y]; ^", "[1, 2, 3, 4, 5, 6, 7, 8, 9^"]:
            self.marked_question(WORKS, text)
        self.marked_question(WORKS, "[]; " * 9 + "[^x]", "[] " + "open(x |), " * 9 + "^")

    def test_each_beginning(self):
        text = '[x, 1, "a"] works(x | -1), open(y |); [1, 2, y] open(y |)'
        for sign in '()[],;|':
            text = text.replace(sign, f" {sign} ")
        tokens = text.split()
        heads = [at for at, token in enumerate(tokens) if token == "]"]
        atoms = [at for at, token in enumerate(tokens) if token == ")"]
        for last in range(len(tokens)):
            start = " ".join(tokens[:last + 1])
            if last in heads:
                self.not_valid(WORKS, start, heads.index(last))
            elif last in atoms:
                self.assertEqual(read_question(WORKS, start)[0], 3)
            else:
                self.bad_question(WORKS, start, len(start))
                self.bad_question(WORKS, start + "   ", len(start) + 3)

    def test_long_texts(self):
        self.bad_question(WORKS, "[" + "x, " * 6000 + "]", 18001)
        self.bad_question(WORKS, " " * 19000, 19000)
        self.bad_question(WORKS, "[" + "x" * 19000, 19001)
        self.bad_question(WORKS, '["' + "x" * 19000, 1)


class QuestionsThatAreNotValid(Reading):
    def test_widths(self):
        for width in [9, 10, 99, GREAT]:
            self.not_valid(WORKS, f"none {width}", None)
        for many in [9, 10, 50]:
            terms = ", ".join(["1"] * many)
            self.not_valid(WORKS, f"[{terms}]", None)
            self.not_valid(WORKS, f"[{terms}] works(x | y); [{terms}]", None)

    def test_numbers_of_joins(self):
        for many in [9, 10, 30]:
            self.not_valid(WORKS, "; ".join(["[]"] * many), None)
            self.not_valid(WORKS, "; ".join(["[x]"] * many), None)
            self.not_valid(WORKS, "; ".join(["[x] open(x |)"] * many), None)

    def test_numbers_of_atoms(self):
        for many in [9, 10, 30]:
            body = ", ".join(["open(x |)"] * many)
            self.not_valid(WORKS, f"[] {body}", 0)
            self.not_valid(WORKS, f"[] open(x |); [] {body}; [] {body}", 1)

    def test_variables_of_heads_that_do_not_stand_in_the_body(self):
        self.not_valid(WORKS, "[x]", 0)
        self.not_valid(WORKS, "[x] open(y |)", 0)
        self.not_valid(WORKS, '[x] open("x" |)', 0)
        self.not_valid(WORKS, "[x, y] open(y |)", 0)
        self.not_valid(WORKS, "[1]; [x]; [y]", 1)
        self.not_valid(WORKS, "[x] open(x |); [x] works(x | y); [x] open(y |)", 2)
        self.not_valid((), "[table]", 0)

    def test_the_least_index_is_told(self):
        self.not_valid(WORKS, "[1]; [1] " + ", ".join(["open(x |)"] * 9) + "; [x]", 1)
        self.not_valid(WORKS, "[1]; [x]; [1] " + ", ".join(["open(x |)"] * 9), 1)


if __name__ == "__main__":
    unittest.main()

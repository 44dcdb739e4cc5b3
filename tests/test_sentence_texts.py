import inspect
import unittest

from everymending import sentence_texts
from everymending.errors import BadText, MendError
from everymending.sentence_texts import read_sentence, write_sentence
from everymending.sentences import is_sentence
from plain import Chances, val, var

GREAT = 10**60 - 1
X, Y = var("x"), var("y")
WORKS = (("open", 1, 0), ("works", 1, 1))
FORMS = (("best", 0, 1), ("far", 2, 2), ("open", 2, 0), ("rain", 0, 0), ("works", 1, 1), ("x", 1, 0))
ALWAYS, NEVER = ("and", ()), ("or", ())
SIGNS = "()[],|=!&/?*"

# Texts that begin no token in a sentence, wherever they stand.
NO_TOKENS = [chr(code) for code in range(33, 127) if not chr(code).isalnum() and chr(code) not in SIGNS + '"-']
NO_TOKENS += list("ABCXYZ") + ["\t", "\n", '""', '"A"', '"aB"', '"a1"', '" a"', '"a "', '"a\n"', "- 1", "-a", "--1",
                               "-(",
                               "00", "01", "-0", "-07", "-=", "-!"]


def fact(name, *terms):
    return ("fact", name, terms)


def same(one, other):
    return ("same", one, other)


def tokens_of(schema, sentence):
    """The tokens of the text of a sentence, by the words of the document."""
    kind = sentence[0]
    if kind == "fact":
        key = [table[1] for table in schema if table[0] == sentence[1]][0]
        columns = [tokens_of_term(term) for term in sentence[2]]
        return [sentence[1], "(", *with_between(columns[:key], ","), "|", *with_between(columns[key:], ","), ")"]
    if kind == "same":
        return [*tokens_of_term(sentence[1]), "=", *tokens_of_term(sentence[2])]
    if kind == "not":
        return ["!", *tokens_of(schema, sentence[1])]
    if kind in ("some", "each"):
        return ["?" if kind == "some" else "*", sentence[1], *tokens_of(schema, sentence[2])]
    sign = "&" if kind == "and" else "/"
    if not sentence[1]:
        return ["[", sign, "]"]
    return ["[", *with_between([tokens_of(schema, part) for part in sentence[1]], sign), "]"]


def tokens_of_term(term):
    kind, content = term
    return [f'"{content}"' if kind == "value" and isinstance(content, str) else str(content)]


def with_between(groups, sign):
    found = []
    for group in groups:
        found.extend([*([sign] if found else []), *group])
    return found


def is_name(token):
    return token[0].isalpha()


def is_value(token):
    return token[0] in '"-' or token[0].isdigit()


def first_fault(schema, tokens):
    """The index of the first token that does not fit, or len(tokens) if the text ends too early, or None.

    A stack has what must still come: a token itself, or a pair of what it is and the bound variables.
    """
    tables = {name: (key, rest) for name, key, rest in schema}
    stack = [("sentence", ())]
    for at, token in enumerate(tokens):
        if not stack:
            return at
        top = stack.pop()
        more = [] if top == token else after(tables, top, token) if isinstance(top, tuple) else None
        if more is None:
            return at
        stack.extend(more[::-1])
    return len(tokens) if stack else None


def after(tables, top, token):
    """What must come behind the token, or None if it does not fit."""
    what, bound = top[0], top[-1]
    term = is_value(token) or token in bound
    if what == "term":
        return [] if term else None
    if what == "name":
        return [("sentence", bound + (token,))] if is_name(token) else None
    if what == "sign" and token in ("&", "/"):
        return [("sentence", bound), ("further", token, bound)]
    if what == "further":
        return [] if token == "]" else [("sentence", bound), top] if token == top[1] else None
    if what == "members" and token in ("&", "/"):
        return ["]"]
    if what == "behind":
        if token == "(" and top[1] in tables:
            key, rest = tables[top[1]]
            return [*with_between([[("term", bound)]] * key, ","), "|", *with_between([[("term", bound)]] * rest, ","),
                    ")"]
        return [("term", bound)] if token == "=" and top[1] in bound else None
    if what not in ("sentence", "members"):
        return None
    further = [("sign", bound)] if what == "members" else []
    if token == "!":
        return [("sentence", bound), *further]
    if token in ("?", "*"):
        return [("name", bound), *further]
    if token == "[":
        return [("members", bound), *further]
    if is_value(token):
        return ["=", ("term", bound), *further]
    return [("behind", token, bound), *further] if token in bound or token in tables else None


class Interface(unittest.TestCase):
    def test_functions_and_their_arguments(self):
        told = {"write_sentence": ["schema", "sentence"], "read_sentence": ["schema", "text"]}
        for name, arguments in told.items():
            function = getattr(sentence_texts, name)
            self.assertEqual(function.__module__, "everymending.sentence_texts")
            self.assertEqual(list(inspect.signature(function).parameters), arguments)

    def test_kinds_of_what_is_returned(self):
        found = read_sentence(WORKS, '?x [works(x | 1) & x = "a"]')
        parts = (found, found[2], found[2][1], found[2][1][0], found[2][1][0][2], found[2][1][0][2][1], found[2][1][1])
        self.assertEqual([type(part) for part in parts], [tuple] * 7)
        self.assertIs(type(found[2][1][0][2][1][1]), int)


class Written(unittest.TestCase):
    def check(self, schema, sentence, text):
        self.assertIs(is_sentence(schema, sentence), True)
        self.assertEqual(write_sentence(schema, sentence), text)
        self.assertEqual(read_sentence(schema, text), sentence)

    def test_the_examples(self):
        schema = (("open", 1, 0), ("works", 1, 1))
        sentence = read_sentence(schema, '?x*y[!works(x|y)/y="bar"]')
        self.assertEqual(write_sentence(schema, sentence), '?x *y [!works(x | y) / y = "bar"]')
        self.check(schema, ("some", "x", ("each", "y", ("and", (fact("works", X, Y), ("not", same(X, Y)))))),
                   "?x *y [works(x | y) & !x = y]")

    def test_facts(self):
        for sentence, text in [(fact("best", val(5)), "best(| 5)"), (fact("rain"), "rain(|)"),
                               (fact("open", val("bar"), val(3)), 'open("bar", 3 |)'),
                               (fact("far", val(1), val("a"), val(-2), val("b")), 'far(1, "a" | -2, "b")')]:
            self.check(FORMS, sentence, text)
        self.check(WORKS, ("some", "x", fact("works", X, X)), "?x works(x | x)")

    def test_same(self):
        for one, text in [(val(0), "0"), (val(-7), "-7"), (val("z"), '"z"'), (val(GREAT), "9" * 60), (X, "x")]:
            self.check(WORKS, ("each", "x", same(one, val(1))), f"*x {text} = 1")
            self.check(WORKS, ("each", "x", same(val("b"), one)), f'*x "b" = {text}')
        self.check((), same(val(1), val(1)), "1 = 1")

    def test_members(self):
        one, other = same(val(1), val(2)), fact("open", val(3))
        for kind, sign in [("and", "&"), ("or", "/")]:
            self.check(WORKS, (kind, ()), f"[{sign}]")
            self.check(WORKS, (kind, (one, other)), f"[1 = 2 {sign} open(3 |)]")
            self.check(WORKS, (kind, (other, one, other)), f"[open(3 |) {sign} 1 = 2 {sign} open(3 |)]")
            self.check(WORKS, (kind, ((kind, ()), ("and", (one, one)), ("or", (other, NEVER)))),
                       f"[[{sign}] {sign} [1 = 2 & 1 = 2] {sign} [open(3 |) / [/]]]")

    def test_not_some_and_each(self):
        self.check(WORKS, ("not", ("not", ("some", "x", ("not", ("each", "yy", ("not", ALWAYS)))))), "!!?x !*yy ![&]")
        self.check((), ("some", "x", ("some", "x", same(X, X))), "?x ?x x = x")

    def test_names_of_tables_as_variables(self):
        self.check(FORMS, ("some", "x", ("and", (fact("x", X), same(X, var("x"))))), "?x [x(x |) & x = x]")
        self.check(WORKS, ("some", "works", ("each", "open", ("or", (fact("works", var("works"), var("open")),
                                                                     same(var("open"), val("works")))))),
                   '?works *open [works(works | open) / open = "works"]')

    def test_depths(self):
        for sign, kind in [("!", "not"), ("?x ", "some"), ("*x ", "each")]:
            sentence, text = ALWAYS, "[&]"
            for _ in range(39):
                sentence, text = (("not", sentence) if kind == "not" else (kind, "x", sentence)), sign + text
            self.check(WORKS, sentence, text)
        sentence, text = NEVER, "[/]"
        for _ in range(39):
            sentence, text = ("and", (sentence, same(val(1), val(1)))), f"[{text} & 1 = 1]"
        self.check(WORKS, sentence, text)

    def test_long_sentences(self):
        members = tuple([same(val(at), val(at)) for at in range(998)])
        self.check((), ("or", members), "[" + " / ".join([f"{at} = {at}" for at in range(998)]) + "]")

    def test_made_up_sentences(self):
        chances = Chances(51)
        for _ in range(1000):
            sentence = chances.sentence(FORMS, 6, ["x", "y", "open"], [1, -20, "a", "open"])
            tokens = tokens_of(FORMS, sentence)
            self.assertIsNone(first_fault(FORMS, tokens))
            text = write_sentence(FORMS, sentence)
            self.assertEqual(text.replace(" ", ""), "".join(tokens))
            self.assertEqual(read_sentence(FORMS, text), sentence)


class Spaces(unittest.TestCase):
    def test_any_number_of_spaces(self):
        chances = Chances(52)
        for _ in range(300):
            sentence = chances.sentence(FORMS, 6, ["x", "y", "rain"], [1, -20, "a"])
            tokens = tokens_of(FORMS, sentence)
            for _ in range(3):
                text = " " * chances.below(3) + tokens[0]
                for one, other in zip(tokens, tokens[1:]):
                    # Only two words, or two integers, would become one token.
                    least = is_name(one) and is_name(other)
                    text += " " * (least + chances.below(3)) + other
                self.assertEqual(read_sentence(FORMS, text + " " * chances.below(3)), sentence)

    def test_no_spaces(self):
        self.assertEqual(read_sentence(WORKS, "?x[works(x|-1)&!-1=x]"),
                         ("some", "x", ("and", (fact("works", X, val(-1)), ("not", same(val(-1), X))))))
        self.assertEqual(read_sentence(WORKS, "?x?y x=y"), read_sentence(WORKS, "  ?  x  ?  y  x  =  y  "))
        self.assertEqual(read_sentence(WORKS, '*x"a"=x'), ("each", "x", same(val("a"), X)))


class Bad(unittest.TestCase):
    def bad(self, schema, text, at):
        with self.assertRaises(BadText) as caught:
            read_sentence(schema, text)
        self.assertEqual((caught.exception.line, caught.exception.at), (0, at), text)
        self.assertIsInstance(caught.exception, MendError)

    def marked(self, schema, *texts):
        """Each text has the sign ^ before the character that is told."""
        for text in texts:
            at = text.index("^")
            self.bad(schema, text[:at] + text[at + 1:], at)

    def test_where_a_sentence_may_begin(self):
        self.marked(WORKS, "^", "   ^", "^)", "^(", "^]", "^,", "^|", "^=", "^&", "^/", "!^", "!^]", "!^&", "?x ^",
                    "?x ^&", "[^", "[^]", "[^=",
                    "[1 = 1 & ^", "[1 = 1 & ^&", "[1 = 1 & ^]", "[1 = 1 / ^/", "*x ^/", "?^", "?^1", '?^"x"', "?^?",
                    "*^[", "* ^!", "?^(")

    def test_words(self):
        self.marked(WORKS, "^x = 1", "^none(1 |)", "?x ^y = x", "?x [x = x & ^y = x]", "[?x x = x & ^x = 1]",
                    "?x x = ^y", "?x works(x | ^y)",
                    "?x works(^y | x)", "works(^x | 1)", "1 = ^x", "1 = ^open", "works ^= 1",
                    "?works works = works ^= 1", "?works works ^)",
                    "?x x^(x |)", "?x x ^x", "?x x^", "open^", "?open open^", "open ^[", "?open open ^works(1 | 2)",
                    "?x open(^open |)")
        self.assertEqual(read_sentence(WORKS, "?open [open = 1 & open(open |)]"),
                         ("some", "open", ("and", (same(var("open"), val(1)), fact("open", var("open"))))))

    def test_terms_where_a_sentence_may_begin(self):
        self.marked(WORKS, "1^", "1 ^(", "1 ^|", "1 ^1", '"a"^', '"a" ^)', "-1 ^&", '"works"^(1 | 2)', "[1 ^&",
                    "[1 = 1 & 2 ^]", "1 = ^", "1 = ^=",
                    "1 = ^(", "1 = ^!", "1 = ^[", "1 = 1 ^= 1", "1 = 1 ^1")

    def test_facts(self):
        self.marked(WORKS, "works(^", "works(^)", "works(^| 1)", "works(1^", "works(1^)", "works(1 ^, 2 | 3)",
                    "works(1 |^", "works(1 | ^)",
                    "works(1 | 2^", "works(1 | 2 ^, 3)", "works(1 | 2 ^|", "works(1 ^2)", "open(1 | ^2)",
                    "open(1 | ^,", "works(1 | 2) ^)",
                    "works(1 | ^= 2)", "works(^! | 1)", "works(1 | 2) ^works(1 | 2)", "works(1 | 2) ^= 1",
                    "works^[1 | 2]")
        self.marked(FORMS, "rain(^)", "rain(|^", "rain(| ^1)", "rain(^1 |)", "best(^1 |)", "best(|^)",
                    "best(| 1 ^, 2)", "open(1 ^| 2)", "open(1, 2 | ^3)",
                    "far(1, 2 | 3 ^)", "far(1 ^)")

    def test_members(self):
        self.marked(WORKS, "[1 = 1 ^]", "[1 = 1^", "[1 = 1 ^= 1]", "[1 = 1 ^, 2 = 2]", "[1 = 1 & 2 = 2 ^/ 3 = 3]",
                    "[1 = 1 / 2 = 2 ^& 3 = 3]",
                    "[1 = 1 & 2 = 2^", "[1 = 1 & 2 = 2 ^)", "[&^", "[& ^&]", "[& ^1 = 1]", "[/ ^&]", "[/^", "[&] ^&",
                    "[&] ^]", "[[&] ^]",
                    "[1 = 1 & 2 = 2 & 3 = 3 ^/", "[1 = 1 & [2 = 2 / 3 = 3] ^/", "[1 = 1 & 2 = 2]^]",
                    "[[1 = 1 & 2 = 2 ^/")

    def test_variables_are_bound_in_their_part_only(self):
        self.marked(WORKS, "[?x open(x |) & open(^x |)]", "[!?x x = x / ?y ^x = y]", "[open(^x |) & ?x open(x |)]",
                    "?x [?y x = y & x = ^y]")

    def test_what_begins_no_token(self):
        for wrong in NO_TOKENS:
            for before in ["", " ", "!", "?", "?x ", "[", "[1 = 1", "[1 = 1 & ", "works(", "works(1 ", "works(1 |",
                           "works(1 | 2) ", "1 ", "1 = ",
                           "1 = 1 ", "[& ", "[&] ", "?x x ", "?x x = ", "open "]:
                for behind in ["", " 1", "x"]:
                    if not (before[-1:].isdigit() and wrong[0].isdigit()):
                        self.bad(WORKS, before + wrong + behind, len(before))

    def test_whichever_comes_first(self):
        self.marked(WORKS, "^x %", "works(1 ^% )", "works ^%", "?x [x = x ^] %", "?x ^% ]", "[1 = 1 ^; %", "^; 1",
                    "^\n1 = 1",
                    "1 = 1^\n", "1^\n= 1", "1 =^\t1")

    def test_texts_that_end_too_early(self):
        for text in ["?x *y [works(x | y) & !x = y]", '[open(1 |) / ["a" = -2 / [&] / !?x x = 1]]', "*x [/]"]:
            tokens = tokens_of(WORKS, read_sentence(WORKS, text))
            for many in range(len(tokens)):
                for glue in (" ", "  "):
                    part = glue.join(tokens[:many])
                    self.bad(WORKS, part, len(part))
                    self.bad(WORKS, part + "   ", len(part) + 3)

    def test_a_token_left_out_put_in_exchanged_or_replaced(self):
        chances = Chances(53)
        told = {True: 0, False: 0}
        for _ in range(150):
            sentence = chances.sentence(FORMS, 4, ["x", "y", "open"], [1, "a"])
            tokens = tokens_of(FORMS, sentence)
            for _ in range(20):
                at, kind = chances.below(len(tokens)), chances.below(4)
                other = chances.pick([*SIGNS, "x", "y", "open", "works", "rain", "none", "1", "-2", '"a"'])
                changed = [tokens[:at] + tokens[at + 1:], tokens[:at] + [other] + tokens[at:],
                           tokens[:at] + tokens[at:at + 2][::-1] + tokens[at + 2:],
                           tokens[:at] + [other] + tokens[at + 1:]][kind]
                told[self.check_tokens(changed)] += 1
        self.assertGreater(min(told.values()), 100)

    def check_tokens(self, tokens):
        """Compares with the stack, and tells whether the text can be read."""
        text = " ".join(tokens)
        fault = first_fault(FORMS, tokens)
        if fault is None:
            self.assertEqual(tokens_of(FORMS, read_sentence(FORMS, text)), tokens)
        else:
            behind = len(text) if fault == len(tokens) else len(" ".join(tokens[:fault] + [""]))
            self.bad(FORMS, text, behind)
        return fault is None

    def test_any_tokens(self):
        chances = Chances(54)
        for _ in range(3000):
            tokens = []
            # Mostly tokens that fit, so that the texts become long.
            for _ in range(chances.below(12)):
                for _ in range(8):
                    token = chances.pick([*SIGNS, "x", "y", "open", "works", "best", "1", '"a"'])
                    if first_fault(FORMS, tokens + [token]) in (None, len(tokens) + 1):
                        break
                tokens.append(token)
            self.check_tokens(tokens)


if __name__ == "__main__":
    unittest.main()

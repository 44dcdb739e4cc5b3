"""Reads books and questions.

A line is read token by token, and the token that comes next is only looked for when all tokens
before it fit: so the first fault of a line is the one that is told.
"""

from everymending.blocks import make_store
from everymending.errors import BadText
from everymending.questions import check_question
from everymending.schemas import MOST_COLUMNS

SIGNS = "()[],;|"


def run_end(text, at, first, last):
    """Returns the index behind the characters from first to last that stand at this index."""
    end = at
    while end < len(text) and first <= text[end] <= last:
        end += 1
    return end


def quoted_at(text, at):
    """Returns the token of the word in double quotes at this index, or None."""
    end = run_end(text, at + 1, "a", "z")
    if end == at + 1 or text[end:end + 1] != '"':
        return None
    return ("value", text[at + 1:end], end + 1)


def integer_at(text, at):
    """Returns the token of the integer at this index, or None."""
    start = at + 1 if text[at] == "-" else at
    end = run_end(text, start, "0", "9")
    if end == start:
        return None
    if text[start] == "0" and text[at:end] != "0":
        return None
    return ("value", int(text[at:end]), end)


def token_at(text, at, signs):
    """Returns the kind and the content of the token at this index, and the index behind it.

    The kind is "word", "value", or one of the signs. Returns None if no token begins there.
    """
    sign = text[at]
    if "a" <= sign <= "z":
        end = run_end(text, at, "a", "z")
        return ("word", text[at:end], end)
    if sign == '"':
        return quoted_at(text, at)
    if sign == "-" or "0" <= sign <= "9":
        return integer_at(text, at)
    if sign in signs:
        return (sign, sign, at + 1)
    return None


class Line:
    """A line that is being read: the kind, the content and the index of the token that is next.

    The kind is "end" behind the last token.
    """

    def __init__(self, number, text, signs):
        self.number = number
        self.text = text
        self.signs = signs
        self.behind = 0
        self.step()

    def step(self):
        """Goes on to the next token: the one before it fits."""
        self.at = run_end(self.text, self.behind, " ", " ")
        if self.at == len(self.text):
            self.kind, self.content = "end", None
            return
        token = token_at(self.text, self.at, self.signs)
        if token is None:
            raise BadText(self.number, self.at)
        self.kind, self.content, self.behind = token

    def take(self, kind):
        """Returns the content of the next token, which must have this kind, and goes on."""
        self.need(self.kind == kind)
        content = self.content
        self.step()
        return content

    def need(self, fits):
        """Raises BadText if the next token does not fit."""
        if not fits:
            raise BadText(self.number, self.at)

    def shows(self, word):
        """Tells whether the next token is this word."""
        return self.kind == "word" and self.content == word


def read_number(line, most):
    """Reads an integer from 0; it is at most `most`, if that is not None."""
    line.need(isinstance(line.content, int) and line.content >= 0)
    line.need(most is None or line.content <= most)
    return line.take("value")


def read_value(line):
    """Reads a value."""
    return line.take("value")


def read_term(line):
    """Reads a variable or a value."""
    if line.kind == "word":
        return ("var", line.take("word"))
    return ("value", line.take("value"))


def read_many(line, many, read_one):
    """Reads so many values or terms, with commas between them."""
    found = []
    for index in range(many):
        if index > 0:
            line.take(",")
        found.append(read_one(line))
    return found


def read_name(line, tables):
    """Reads the name of one of the tables."""
    line.need(line.kind == "word" and line.content in tables)
    return line.take("word")


def read_columns(line, table, read_one):
    """Reads the tuple of the values or terms of a table, with its brackets and the `|`."""
    line.take("(")
    found = read_many(line, table[1], read_one)
    line.take("|")
    found.extend(read_many(line, table[2], read_one))
    line.take(")")
    return tuple(found)


def read_table(line, tables):
    """Reads the line of a table behind the word `table`, and returns the table."""
    line.need(line.content not in tables)
    name = line.take("word")
    key = read_number(line, MOST_COLUMNS)
    rest = read_number(line, MOST_COLUMNS - key)
    line.need(line.kind == "end")
    return (name, key, rest)


def read_row(line, table):
    """Reads the line of a fact behind its name, and returns the row."""
    row = read_columns(line, table, read_value)
    line.need(line.kind == "end")
    return row


def read_book_line(line, tables, facts):
    """Reads a line that is not empty, and adds what it writes to the tables or the facts."""
    if line.shows("table"):
        line.step()
        if line.kind == "word":
            table = read_table(line, tables)
            tables[table[0]] = table
            return
        # Only the token behind `table` shows that the word is meant as the name of a fact.
        name = "table"
        line.need(name in tables)
    else:
        name = read_name(line, tables)
    facts.append((name, read_row(line, tables[name])))


def read_book(text):
    """Returns the pair of the schema and the store that the book text writes; raises BadText."""
    tables = {}
    facts = []
    for number, content in enumerate(text.split("\n")):
        line = Line(number, content, SIGNS)
        if line.kind != "end":
            read_book_line(line, tables, facts)
    schema = tuple(sorted(tables.values()))
    return (schema, make_store(schema, facts))


def read_first_head(line):
    """Reads a head with any number of terms."""
    line.take("[")
    found = []
    if line.kind != "]":
        found.append(read_term(line))
        while line.kind == ",":
            line.step()
            found.append(read_term(line))
    line.take("]")
    return tuple(found)


def read_later_head(line, width):
    """Reads a head that must have so many terms as the first one."""
    line.take("[")
    found = read_many(line, width, read_term)
    line.take("]")
    return tuple(found)


def read_atom(line, tables):
    """Reads an atom."""
    name = read_name(line, tables)
    return (name, read_columns(line, tables[name], read_term))


def read_body(line, tables):
    """Reads the atoms of a join, perhaps none."""
    found = []
    if line.kind == "word":
        found.append(read_atom(line, tables))
        while line.kind == ",":
            line.step()
            found.append(read_atom(line, tables))
    return tuple(found)


def read_joins(line, tables):
    """Reads the text of a question with joins."""
    head = read_first_head(line)
    joins = [(head, read_body(line, tables))]
    while line.kind == ";":
        line.step()
        later = read_later_head(line, len(head))
        joins.append((later, read_body(line, tables)))
    return (len(head), tuple(joins))


def read_question(schema, text):
    """Returns the question that the text writes; raises BadText, then NoQuestion."""
    line = Line(0, text, SIGNS)
    if line.shows("none"):
        line.step()
        question = (read_number(line, None), ())
    else:
        question = read_joins(line, {table[0]: table for table in schema})
    line.need(line.kind == "end")
    check_question(schema, question)
    return question

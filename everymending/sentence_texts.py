"""The texts of sentences: writing and reading them."""

from everymending.reading import Line, read_columns
from everymending.writing import atom_text, term_text

SIGNS = "()[],|=!&/?*"

JOINING_SIGNS = {"and": "&", "or": "/"}
BINDING_SIGNS = {"some": "?", "each": "*"}

JOINING_KINDS = {"&": "and", "/": "or"}
BINDING_KINDS = {"?": "some", "*": "each"}


def write_sentence(schema, sentence):
    """Returns the text of a valid sentence."""
    kind = sentence[0]
    if kind == "fact":
        return atom_text(schema, sentence[1:])
    if kind == "same":
        return term_text(sentence[1]) + " = " + term_text(sentence[2])
    if kind == "not":
        return "!" + write_sentence(schema, sentence[1])
    if kind in BINDING_SIGNS:
        return BINDING_SIGNS[kind] + sentence[1] + " " + write_sentence(schema, sentence[2])
    sign = JOINING_SIGNS[kind]
    if len(sentence[1]) == 0:
        return "[" + sign + "]"
    texts = [write_sentence(schema, member) for member in sentence[1]]
    return "[" + (" " + sign + " ").join(texts) + "]"


def read_bound_term(line, bound):
    """Reads a value or one of the bound variables."""
    if line.kind == "word":
        line.need(line.content in bound)
        return ("var", line.take("word"))
    return ("value", line.take("value"))


def read_fact_or_same(line, tables, bound):
    """Reads a part that begins with a word or a value."""
    if line.kind == "word":
        line.need(line.content in tables or line.content in bound)
        name = line.take("word")
        if line.kind == "(":
            line.need(name in tables)
            columns = read_columns(line, tables[name], lambda inner: read_bound_term(inner, bound))
            return ("fact", name, columns)
        line.need(name in bound)
        term = ("var", name)
    else:
        term = ("value", line.take("value"))
    line.take("=")
    return ("same", term, read_bound_term(line, bound))


def read_members(line, tables, bound):
    """Reads an "and" or an "or" behind its `[`."""
    found = []
    if line.kind not in JOINING_KINDS:
        found.append(read_part(line, tables, bound))
        line.need(line.kind in JOINING_KINDS)
    sign = line.kind
    if len(found) == 0:
        line.step()
    else:
        while line.kind == sign:
            line.step()
            found.append(read_part(line, tables, bound))
    line.take("]")
    return (JOINING_KINDS[sign], tuple(found))


def read_part(line, tables, bound):
    """Reads a sentence in which these variables are bound around it."""
    sign = line.kind
    if sign == "!":
        line.step()
        return ("not", read_part(line, tables, bound))
    if sign in BINDING_KINDS:
        line.step()
        variable = line.take("word")
        return (BINDING_KINDS[sign], variable, read_part(line, tables, bound + (variable,)))
    if sign == "[":
        line.step()
        return read_members(line, tables, bound)
    return read_fact_or_same(line, tables, bound)


def read_sentence(schema, text):
    """Returns the sentence that the text writes; raises BadText."""
    line = Line(0, text, SIGNS)
    sentence = read_part(line, {table[0]: table for table in schema}, ())
    line.need(line.kind == "end")
    return sentence

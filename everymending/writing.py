"""The texts of values, facts, atoms, books and questions."""

from everymending.schemas import table_of


def value_text(value):
    """Returns the text of a value."""
    if isinstance(value, int):
        return str(value)
    return f'"{value}"'


def term_text(term):
    """Returns the text of a variable or a value."""
    kind, content = term
    if kind == "var":
        return content
    return value_text(content)


def columns_text(schema, name, texts):
    """Returns the name of a table and the texts of its columns, with `|` behind the key."""
    key = table_of(schema, name)[1]
    parts = []
    if key > 0:
        parts.append(", ".join(texts[:key]))
    parts.append("|")
    if key < len(texts):
        parts.append(", ".join(texts[key:]))
    return name + "(" + " ".join(parts) + ")"


def fact_text(schema, fact):
    """Returns the text of a fact."""
    name, row = fact
    return columns_text(schema, name, [value_text(value) for value in row])


def atom_text(schema, atom):
    """Returns the text of an atom."""
    name, terms = atom
    return columns_text(schema, name, [term_text(term) for term in terms])


def write_book(schema, store):
    """Returns the book text of the schema and the store."""
    lines = [f"table {name} {key} {rest}" for name, key, rest in schema]
    lines.extend([fact_text(schema, fact) for fact in store])
    return "\n".join(lines)


def join_text(schema, join):
    """Returns the text of a join."""
    head, body = join
    text = "[" + ", ".join([term_text(term) for term in head]) + "]"
    if len(body) == 0:
        return text
    return text + " " + ", ".join([atom_text(schema, atom) for atom in body])


def write_question(schema, question):
    """Returns the text of a valid question."""
    width, joins = question
    if len(joins) == 0:
        return f"none {width}"
    return "; ".join([join_text(schema, join) for join in joins])

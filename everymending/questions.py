"""Questions: terms, atoms and joins, when they are valid, and rows put into them."""

from everymending.errors import NoQuestion
from everymending.schemas import table_of
from everymending.values import is_row, is_word

MOST_WIDTH = 8
MOST_JOINS = 8
MOST_ATOMS = 8


def is_term(term):
    """Tells whether the pair is a variable or a value."""
    kind, content = term
    if kind == "var":
        return is_word(content)
    return is_row((content,))


def is_atom(schema, atom):
    """Tells whether the pair of a name and terms is an atom of the schema."""
    name, terms = atom
    table = table_of(schema, name)
    if table is None or len(terms) != table[1] + table[2]:
        return False
    return all(is_term(term) for term in terms)


def terms_of_body(body):
    """Returns the list of the terms of all atoms, one atom after the other."""
    terms = []
    for atom in body:
        terms.extend(atom[1])
    return terms


def is_join(schema, width, join):
    """Tells whether the pair of a head and a body is a join of the width."""
    head, body = join
    if len(head) != width or len(body) > MOST_ATOMS:
        return False
    if not all(is_term(term) for term in head):
        return False
    if not all(is_atom(schema, atom) for atom in body):
        return False
    inside = terms_of_body(body)
    return all(term[0] == "value" or term in inside for term in head)


def check_question(schema, question):
    """Raises NoQuestion if the question is not valid for the schema."""
    width, joins = question
    if width < 0 or width > MOST_WIDTH or len(joins) > MOST_JOINS:
        raise NoQuestion(None)
    for index, join in enumerate(joins):
        if not is_join(schema, width, join):
            raise NoQuestion(index)


def variables_of(join):
    """Returns the tuple of the variables of the join, in alphabetical order."""
    head, body = join
    terms = list(head) + terms_of_body(body)
    return tuple(sorted({content for kind, content in terms if kind == "var"}))


def is_simple(join):
    """Tells whether no two atoms of the join have the same name."""
    body = join[1]
    return len({atom[0] for atom in body}) == len(body)


def values_of_terms(terms, row):
    """Returns the values that turn the terms into the row, by variable, or None."""
    values = {}
    for (kind, content), value in zip(terms, row):
        if kind == "value" and content != value:
            return None
        if kind == "var" and values.setdefault(content, value) != value:
            return None
    return values


def put_value(values, term):
    """Returns the value of the term if it is one of the variables, otherwise the term."""
    kind, content = term
    if kind == "var" and content in values:
        return ("value", values[content])
    return term


def put_values(values, atom):
    """Returns the atom with the values in the place of their variables."""
    name, terms = atom
    return (name, tuple([put_value(values, term) for term in terms]))


def put_row(question, row):
    """Returns the closed question in which the row is put."""
    joins = []
    for head, body in question[1]:
        values = values_of_terms(head, row)
        if values is not None:
            joins.append(((), tuple([put_values(values, atom) for atom in body])))
    return (0, tuple(joins))

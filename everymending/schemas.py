"""Tables, schemas and facts."""

from everymending.errors import NoSchema
from everymending.values import is_row, is_word

MOST_TABLES = 20
MOST_COLUMNS = 8


def is_table(table):
    """Tells whether the triple of a string and two integers is a table."""
    name, key, rest = table
    return is_word(name) and key >= 0 and rest >= 0 and key + rest <= MOST_COLUMNS


def check_schema(schema):
    """Raises NoSchema if the tuple of triples is not a schema."""
    if len(schema) > MOST_TABLES:
        raise NoSchema("there are too many tables")
    # The empty string comes before every word, so the first table needs no case of its own.
    name_before = ""
    for table in schema:
        if not is_table(table):
            raise NoSchema("one of the triples is not a table")
        if table[0] <= name_before:
            raise NoSchema("the names are not in order, or one stands twice")
        name_before = table[0]


def table_of(schema, name):
    """Returns the table with this name, or None."""
    for table in schema:
        if table[0] == name:
            return table
    return None


def is_fact(schema, name, row):
    """Tells whether the name and the row are a fact of the schema."""
    table = table_of(schema, name)
    if table is None:
        return False
    return len(row) == table[1] + table[2] and is_row(row)


def key_of(schema, fact):
    """Returns the key of a fact of the schema."""
    name, row = fact
    table = table_of(schema, name)
    return row[:table[1]]

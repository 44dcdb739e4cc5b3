"""Words, values and rows, and their orders."""


def is_word(text):
    """Tells whether the string is a word."""
    return text != "" and all("a" <= letter <= "z" for letter in text)


def is_row(row):
    """Tells whether each string of the tuple of integers and strings is a word."""
    return all(isinstance(value, int) or is_word(value) for value in row)


def value_rank(value):
    """Returns what Python compares in the order of the values."""
    # Python does not compare integers with strings, so the first part keeps them apart.
    if isinstance(value, int):
        return (0, value)
    return (1, value)


def row_rank(row):
    """Returns what Python compares in the order of the rows."""
    return [value_rank(value) for value in row]


def compare_values(left, right):
    """Returns -1, 0 or 1 if the left value is before, equal to or behind the right one."""
    if left == right:
        return 0
    if value_rank(left) < value_rank(right):
        return -1
    return 1


def sorted_rows(rows):
    """Returns a new list of the rows in ascending order without duplicates."""
    different = {row: True for row in rows}
    return sorted(different, key=row_rank)

"""Sentences of joins with plans.

The sentence follows the reckoning by the plan ([25]): there are values for the key of the next atom
so that its block is there, and for each row of this block the atom can become the row and the rest
is sure.
"""

from everymending.attacks import free_in, key_terms
from everymending.planning import needed_plan
from everymending.questions import variables_of

LETTERS = "abcdefghijklmnopqrstuvwxyz"


def word_at(number):
    """Returns the word with this number, from 0; the shorter words come first."""
    letters = ""
    left = number
    while left >= 0:
        left, at = divmod(left, len(LETTERS))
        letters = LETTERS[at] + letters
        left -= 1
    return letters


def new_words(many, used):
    """Returns the list of so many words that are not among the used ones."""
    found = []
    number = 0
    while len(found) < many:
        word = word_at(number)
        if word not in used:
            found.append(word)
        number += 1
    return found


def conjunction(members):
    """Returns a sentence that holds if all members hold."""
    if len(members) == 1:
        return members[0]
    return ("and", tuple(members))


def bound_by(kind, variables, part):
    """Returns the part behind a "some" or an "each" for each of the variables."""
    for variable in variables[::-1]:
        part = (kind, variable, part)
    return part


def other_columns(terms, known, words):
    """Returns variables for the other columns of an atom, each once, and what must be the same.

    A variable of the atom that is not known stands for itself; otherwise one of the words does.
    """
    columns = []
    same = []
    for term, word in zip(terms, words):
        kind, content = term
        if kind == "var" and content not in known and content not in columns:
            columns.append(content)
        else:
            columns.append(word)
            same.append(("same", ("var", word), term))
    return (columns, same)


def sentence_from(schema, atoms, known, words):
    """Returns the sentence for the atoms that are left, in the order of the plan.

    The known variables are bound around it. The words are those that may be bound as well.
    """
    name, terms = atoms[0]
    key = key_terms(schema, atoms[0])
    found = free_in(key, known)
    rest = terms[len(key):]
    columns, wanted = other_columns(rest, list(known) + found, words)
    if len(atoms) > 1:
        inner = list(known) + found + columns
        wanted.append(sentence_from(schema, atoms[1:], inner, words[len(rest):]))
    fact = ("fact", name, key + tuple([("var", variable) for variable in columns]))
    members = [bound_by("some", columns, fact)]
    if len(columns) == 0:
        members.extend(wanted)
    elif len(wanted) > 0:
        each = ("or", (("not", fact), conjunction(wanted)))
        members.append(bound_by("each", columns, each))
    return bound_by("some", found, conjunction(members))


def sentence_of(schema, join):
    """Returns a sentence that holds in a store exactly if the join is sure; raises NoPlan."""
    atoms = [join[1][index] for index in needed_plan(schema, join)]
    if len(atoms) == 0:
        return ("and", ())
    many = sum([len(terms) for _, terms in atoms])
    used = list(variables_of(join)) + [name for name, _, _ in schema]
    return sentence_from(schema, atoms, [], new_words(many, used))

"""Sentences about stores: when they are valid, and whether they hold.

Looking at a sentence, negations are first brought inwards, so that it is made of these parts:
"fact" and "same", which are wanted to be so or not to be so; "and" and "or"; and "some" and "none"
with a variable. There, variables are integers, so that no two parts bind the same one.
"""

from everymending.joining import parts_apart
from everymending.questions import is_atom, is_term, values_of_terms
from everymending.values import is_word

MOST_DEPTH = 40


def is_bound(term, bound):
    """Tells whether the term is a bound variable or a value."""
    kind, content = term
    if kind == "var":
        return content in bound
    return is_term(term)


def is_part(schema, part, bound, depth):
    """Tells whether a part of a sentence is valid and has at most this depth."""
    if depth == 0:
        return False
    kind = part[0]
    if kind == "fact":
        return is_atom(schema, part[1:]) and all(is_bound(term, bound) for term in part[2])
    if kind == "same":
        return is_bound(part[1], bound) and is_bound(part[2], bound)
    if kind == "not":
        return is_part(schema, part[1], bound, depth - 1)
    if kind in ("and", "or"):
        members = part[1]
        return len(members) != 1 and all(is_part(schema, member, bound, depth - 1)
                                         for member in members)
    return is_word(part[1]) and is_part(schema, part[2], bound + (part[1],), depth - 1)


def is_sentence(schema, sentence):
    """Tells whether the sentence is valid for the schema."""
    return is_part(schema, sentence, (), MOST_DEPTH)


class Part:
    """A part of a sentence that is looked at. Its number is its own."""

    def __init__(self, number, kind, wanted):
        self.number = number
        self.kind = kind
        self.wanted = wanted
        self.name = None
        self.terms = ()
        self.variable = None
        self.parts = ()
        self.free = {}


class Looking:
    """A store that sentences are looked at in.

    `known` are the values of variables. What was found out for equal values is not found out again.
    """

    def __init__(self, store):
        self.facts = {fact: True for fact in store}
        self.rows = {}
        self.domain = {}
        for name, row in store:
            self.rows.setdefault(name, []).append(row)
            for value in row:
                self.domain[value] = True
        self.many = 0
        self.verdicts = {}

    def made_part(self, sentence, wanted, names):
        """Makes the part for this sentence, or for its negation if it is not wanted.

        `names` has the variables by their names in the sentence.
        """
        kind = sentence[0]
        if kind == "not":
            return self.made_part(sentence[1], not wanted, names)
        if kind == "fact":
            return self.made_leaf(kind, wanted, sentence[1], sentence[2], names)
        if kind == "same":
            return self.made_leaf(kind, wanted, None, sentence[1:], names)
        if kind in ("and", "or"):
            part = self.new_part("and" if (kind == "and") == wanted else "or", True)
            part.parts = tuple([self.made_part(one, wanted, names) for one in sentence[1]])
        else:
            part = self.new_part("some" if (kind == "some") == wanted else "none", True)
            inner = {**names, sentence[1]: part.number}
            part.variable = part.number
            part.parts = (self.made_part(sentence[2], kind == "some", inner),)
        for one in part.parts:
            for variable in one.free:
                if variable != part.variable:
                    part.free[variable] = True
        return part

    def made_leaf(self, kind, wanted, name, terms, names):
        """Makes a part with terms. Its values belong to the values of the sentence."""
        part = self.new_part(kind, wanted)
        part.name = name
        found = []
        for sort, content in terms:
            if sort == "var":
                part.free[names[content]] = True
                found.append(("var", names[content]))
            else:
                self.domain[content] = True
                found.append(("value", content))
        part.terms = tuple(found)
        return part

    def new_part(self, kind, wanted):
        """Returns a part with a new number."""
        self.many += 1
        return Part(self.many, kind, wanted)

    def holds(self, part, known):
        """Tells whether the part holds; all its free variables are known."""
        if part.kind == "and":
            return all(self.holds(one, known) for one in part.parts)
        if part.kind == "or":
            return any(self.holds(one, known) for one in part.parts)
        if part.kind in ("some", "none"):
            found = self.some_hold(part.parts, (part.variable,), known)
            return found == (part.kind == "some")
        row = tuple([known[content] if sort == "var" else content for sort, content in part.terms])
        if part.kind == "same":
            return (row[0] == row[1]) == part.wanted
        return ((part.name, row) in self.facts) == part.wanted

    def some_hold(self, members, variables, known):
        """Tells whether all members hold for some values of these variables."""
        if len(self.domain) == 0:
            return False
        while len(members) == 1 and members[0].kind in ("some", "and"):
            if members[0].kind == "some":
                variables = variables + (members[0].variable,)
            members = members[0].parts
        if len(members) == 1 and members[0].kind == "or":
            return any(self.some_hold((one,), variables, known) for one in members[0].parts)
        marked = [(member, [variable for variable in variables if variable in member.free])
                  for member in members]
        for group in parts_apart(marked):
            if not self.group_holds(tuple(group), known):
                return False
        return True

    def group_holds(self, group, known):
        """Tells whether these members hold for some values of their free variables not known."""
        free = list({variable: True for member in group for variable in member.free})
        case = (tuple([member.number for member in group]),
                tuple([(variable, known[variable]) for variable in free if variable in known]))
        if case not in self.verdicts:
            left = tuple([variable for variable in free if variable not in known])
            self.verdicts[case] = self.found_group(group, left, known)
        return self.verdicts[case]

    def found_group(self, group, variables, known):
        """Finds out whether these members hold for some values of these variables."""
        if len(variables) == 0:
            return all(self.holds(member, known) for member in group)
        if len(group) == 1 and group[0].kind in ("some", "and", "or"):
            return self.some_hold(group, variables, known)
        variable, choices = self.fewest_choices(group, variables, known)
        rest = tuple([other for other in variables if other != variable])
        for value in choices:
            if self.some_hold(group, rest, {**known, variable: value}):
                return True
        return False

    def fewest_choices(self, group, variables, known):
        """Returns the variable for which the fewest values come into question, and their list."""
        best = None
        for variable in variables:
            found = self.fewest_for(group, variable, known)
            choices = list(self.domain) if found is None else list(found)
            if best is None or len(choices) < len(best[1]):
                best = (variable, choices)
        return best

    def fewest_for(self, parts, variable, known):
        """Returns the smallest dict of values that one of the parts allows, or None for all."""
        best = None
        for part in parts:
            found = self.values_for(part, variable, known)
            if found is not None and (best is None or len(found) < len(best)):
                best = found
        return best

    def values_for(self, part, variable, known):
        """Returns a dict with the values of the variable for which the part may hold.

        Variables that are not known may have any values. Returns None for all values.
        """
        if part.kind == "and":
            return self.fewest_for(part.parts, variable, known)
        if part.kind == "some":
            return self.values_for(part.parts[0], variable, known)
        if part.kind == "or":
            together = {}
            for one in part.parts:
                found = self.values_for(one, variable, known)
                if found is None:
                    return None
                for value in found:
                    together[value] = True
            return together
        if part.kind in ("fact", "same") and part.wanted and variable in part.free:
            return self.values_for_leaf(part, variable, known)
        return None

    def values_for_leaf(self, part, variable, known):
        """Returns the values of the variable for which a fact is there, or two terms are the same.

        Returns None for all values.
        """
        terms = [("value", known[content]) if sort == "var" and content in known else
                 (sort, content) for sort, content in part.terms]
        if part.kind == "same":
            found = [content for sort, content in terms if sort == "value"]
            return {value: True for value in found} if len(found) > 0 else None
        found = {}
        for row in self.rows.get(part.name, []):
            values = values_of_terms(terms, row)
            if values is not None:
                found[values[variable]] = True
        return found


def sentence_holds(schema, store, sentence):
    """Tells whether the sentence holds in the store."""
    looking = Looking(store)
    return looking.holds(looking.made_part(sentence, True, {}), {})

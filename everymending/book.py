"""Books: stores that change, with the lists of deeds that were done, and with kept questions."""

from everymending.asking import best_strategy
from everymending.blocks import blocks_of, fact_rank, make_store, place_of
from everymending.errors import NoKept, NoRow
from everymending.questions import check_question, put_row
from everymending.reading import read_book
from everymending.schemas import check_schema, is_fact
from everymending.sure import possible_rows, share_of, sure_rows
from everymending.trees import decide
from everymending.writing import write_book


def check_deeds(schema, deeds):
    """Raises NoRow if one of the deeds does not name a fact of the schema."""
    for _, name, row in deeds:
        if not is_fact(schema, name, row):
            raise NoRow("a deed does not name a fact of the schema")


def facts_changed(schema, facts, deed):
    """Returns the list of the facts that the deed adds to the dict of facts or removes from it."""
    kind, name, row = deed
    fact = (name, row)
    if kind == "put":
        return [] if fact in facts else [fact]
    if fact not in facts:
        return []
    if kind == "drop":
        return [fact]
    place = place_of(schema, fact)
    return [other for other in facts if other != fact and place_of(schema, other) == place]


def after_deeds(schema, store, deeds):
    """Returns the store after the deeds, and the number of the deeds that changed it."""
    facts = {fact: True for fact in store}
    many = 0
    for deed in deeds:
        changed = facts_changed(schema, facts, deed)
        for fact in changed:
            if fact in facts:
                del facts[fact]
            else:
                facts[fact] = True
        if len(changed) > 0:
            many += 1
    return (make_store(schema, list(facts)), many)


def changed_places(schema, before, after):
    """Returns the list of the names and keys of the blocks that differ, in ascending order."""
    old = {(name, key): rows for name, key, rows in blocks_of(schema, before)}
    new = {(name, key): rows for name, key, rows in blocks_of(schema, after)}
    places = [place for place in old if new.get(place) != old[place]]
    places.extend([place for place in new if place not in old])
    return sorted(places, key=fact_rank)


def names_of(question):
    """Returns a dict; its keys are the names of the atoms of the question."""
    return {name: True for _, body in question[1] for name, _ in body}


def without_rows(rows, others):
    """Returns the tuple of those rows that are not among the other ones."""
    known = {row: True for row in others}
    return tuple([row for row in rows if row not in known])


class Book:
    """A schema and a store that changes by lists of deeds, with kept questions."""

    def __init__(self, schema):
        check_schema(schema)
        self._schema = schema
        # The stores before and after the lists that were done; the book is at one of them.
        self._stores = [()]
        self._at = 0
        self._kept = {}
        self._given = 0
        self._found = {}
        # What the papers tell of, and the papers, or None if they are not yet made.
        self._last = None
        self._papers = ()

    @property
    def book_schema(self):
        """The schema of the book."""
        return self._schema

    @property
    def whole_store(self):
        """The store of the book, with all its rivals."""
        return self._stores[self._at]

    @staticmethod
    def of_text(text):
        """Returns a book with the schema and the store of a book text; raises BadText."""
        schema, store = read_book(text)
        book = Book(schema)
        book._stores = [store]
        return book

    def do(self, deeds):
        """Does a list of deeds, and returns how many changed the store; raises NoRow."""
        check_deeds(self._schema, deeds)
        store, many = after_deeds(self._schema, self.whole_store, deeds)
        self._stores = self._stores[:self._at + 1] + [store]
        self._go_to(self._at + 1)
        return many

    def put(self, name, row):
        """Adds a fact, and tells whether it was not there; raises NoRow."""
        return self.do([("put", name, row)]) > 0

    def drop(self, name, row):
        """Removes a fact, and tells whether it was there; raises NoRow."""
        return self.do([("drop", name, row)]) > 0

    def settle(self, name, row):
        """Removes the rivals of a fact, and tells whether there were any; raises NoRow."""
        return self.do([("settle", name, row)]) > 0

    def undo(self):
        """Goes back before the last list that is done, and tells whether there was one."""
        if self._at == 0:
            return False
        self._go_to(self._at - 1)
        return True

    def redo(self):
        """Goes forward over the last list that was undone, and tells whether there was one."""
        if self._at + 1 == len(self._stores):
            return False
        self._go_to(self._at + 1)
        return True

    def _go_to(self, at):
        """Goes to another store, and remembers what the papers must tell."""
        self._last = (self._stores[self._at], self._stores[at], tuple(self._kept.items()))
        self._papers = None
        self._at = at

    def keep(self, question):
        """Keeps a question and returns its number; raises NoQuestion."""
        check_question(self._schema, question)
        self._given += 1
        self._kept[self._given] = question
        return self._given

    def question(self, number):
        """Returns the kept question; raises NoKept."""
        if number not in self._kept:
            raise NoKept(number)
        return self._kept[number]

    def forget(self, number):
        """Keeps the question no longer; raises NoKept."""
        if number not in self._kept:
            raise NoKept(number)
        del self._kept[number]

    def sure(self, number):
        """Returns the tuple of the sure rows of the kept question; raises NoKept."""
        return self._sure_in(self.whole_store, number, self.question(number))

    def possible(self, number):
        """Returns the tuple of the possible rows of the kept question; raises NoKept."""
        return possible_rows(self._schema, self.whole_store, self.question(number))

    def _sure_in(self, store, number, question):
        """Returns the sure rows of a question; those for its last two stores are remembered."""
        found = self._found.setdefault(number, [])
        for other, rows in found:
            if other == store:
                return rows
        rows = sure_rows(self._schema, store, question)
        found.append((store, rows))
        del found[:-2]
        return rows

    def why(self, number, row):
        """Returns ("sure", tree) or ("fails", mending) for the row of the kept question."""
        return decide(self._schema, self.whole_store, put_row(self.question(number), row))

    def share(self, number, row):
        """Returns the share of the row of the kept question; raises NoKept."""
        return share_of(self._schema, self.whole_store, self.question(number), row)

    def next_block(self, number, row):
        """Returns the name and the key of a block to be asked about first, or None."""
        asked = put_row(self.question(number), row)
        strategy = best_strategy(self._schema, self.whole_store, asked)
        if strategy[0] == "tell":
            return None
        return (strategy[1], strategy[2])

    def book_text(self):
        """Returns the book text of the schema and the store."""
        return write_book(self._schema, self.whole_store)

    def papers(self):
        """Returns the tuple of the papers of the last list."""
        if self._papers is None:
            before, after, kept = self._last
            places = changed_places(self._schema, before, after)
            self._papers = tuple([self._paper(number, question, before, after, places)
                                  for number, question in kept])
        return self._papers

    def _paper(self, number, question, before, after, places):
        """Returns the paper of a question for a list that changed the blocks at these places."""
        names = names_of(question)
        changed = tuple([place for place in places if place[0] in names])
        if len(changed) == 0:
            return (number, (), (), ())
        old = self._sure_in(before, number, question)
        new = self._sure_in(after, number, question)
        return (number, changed, without_rows(old, new), without_rows(new, old))

    def without(self, facts, number):
        """Returns the sure rows that the kept question would have without these facts."""
        question = self.question(number)
        gone = {fact: True for fact in facts}
        store = tuple([fact for fact in self.whole_store if fact not in gone])
        return sure_rows(self._schema, store, question)

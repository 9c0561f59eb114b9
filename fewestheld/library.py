"""A library of books and questions about them (points 65 to 69)."""

from fewestheld.alike import difference
from fewestheld.errors import (FewestheldError, InvalidQuestion, NameInUse, NothingToRedo, NothingToUndo, TooMany,
                               UnknownName)
from fewestheld.least import least
from fewestheld.matchings import check_same_words
from fewestheld.reach import first_answer

BOOKS_OF_KIND = {"alike": 2, "ever": 1, "places": 1}


def decide(kind, books, limit=20000):
    """Return the answer of a question of this kind about some books."""
    _check_kind(kind, len(books))
    try:
        if kind == "alike":
            return _alike_answer(books[0], books[1], limit)
        if kind == "places":
            return ("places", len(least(books[0], limit=limit).places))
    except TooMany:
        return ("many", limit)
    row = first_answer(books[0])
    return ("never",) if row is None else ("yes", len(row))


class Library:
    """Books and questions under names, with changes that can be taken back."""

    def __init__(self):
        self.decided = 0
        self.kept = 0
        # What is defined stands under keys of a sort and a name: an entry of a book is a tuple of its own number
        # and the book, a question one of its kind and the names of its books.
        self._defined = {}
        self._done = []
        self._undone = []
        self._entries = 0
        self._found = {}

    def set_book(self, name, book):
        """Set a book under a name that no book has."""
        if ("book", name) in self._defined:
            raise NameInUse(name)
        self._put_book(name, book)

    def set_rule(self, name, rule):
        """Exchange a rule of a book."""
        self._put_book(name, self.book(name).with_rule(rule))

    def set_answer(self, name, place, yes):
        """Exchange the answer of a place of a book."""
        self._put_book(name, self.book(name).with_answer(place, yes))

    def remove_book(self, name):
        """Remove a book that no question is about."""
        self.book(name)
        if any([name in self.question(asked)[1] for asked in self.question_names()]):
            raise NameInUse(name)
        self._put(("book", name), None)

    def ask(self, name, kind, names):
        """Ask a question, or replace the one of its name."""
        books = [self.book(told) for told in names]
        _check_kind(kind, len(books))
        for book in books:
            check_same_words(books[0], book)
        self._put(("question", name), (kind, tuple(names)))

    def drop(self, name):
        """Drop a question."""
        self.question(name)
        self._put(("question", name), None)

    def undo(self):
        """Take back the last change that is not taken back."""
        if not self._done:
            raise NothingToUndo("there is no change to take back")
        change = self._done.pop()
        self._undone.append(change)
        key, before, _ = change
        self._define(key, before)

    def redo(self):
        """Make the change again that was taken back last."""
        if not self._undone:
            raise NothingToRedo("there is no change to make again")
        change = self._undone.pop()
        self._done.append(change)
        key, _, behind = change
        self._define(key, behind)

    def change_all(self, changes):
        """Make several changes one after another, or none of them if one raises an error."""
        many, undone = len(self._done), self._undone
        try:
            for name, *arguments in changes:
                self._make(name, arguments)
        except FewestheldError:
            while len(self._done) > many:
                self.undo()
            # Each change began a new list, so this one is as it was.
            self._undone = undone
            raise

    def book_names(self):
        """Return the names of the books, in ascending order."""
        return self._names_of("book")

    def question_names(self):
        """Return the names of the questions, in ascending order."""
        return self._names_of("question")

    def book(self, name):
        """Return the book with this name."""
        return self._at("book", name)[1]

    def question(self, name):
        """Return the kind of a question and the tuple of the names of its books."""
        return self._at("question", name)

    def answer(self, name):
        """Return the answer of a question."""
        kind, names = self.question(name)
        entries = [self._at("book", told) for told in names]
        key = (kind, tuple([number for number, _ in entries]))
        if key in self._found:
            self.kept += 1
        else:
            self._found[key] = decide(kind, [book for _, book in entries])
            self.decided += 1
        return self._found[key]

    def answers(self):
        """Return the names of all questions, in ascending order, with their answers."""
        return [(name, self.answer(name)) for name in self.question_names()]

    def _make(self, name, arguments):
        actions = {"set_book": self.set_book, "set_rule": self.set_rule, "set_answer": self.set_answer,
                   "remove_book": self.remove_book, "ask": self.ask, "drop": self.drop}
        action = actions[name]
        action(*arguments)

    def _at(self, sort, name):
        if (sort, name) not in self._defined:
            raise UnknownName(name)
        return self._defined[(sort, name)]

    def _names_of(self, sort):
        return sorted([name for kept_sort, name in self._defined if kept_sort == sort])

    def _put_book(self, name, book):
        self._entries += 1
        self._put(("book", name), (self._entries, book))

    def _put(self, key, value):
        """Make a change, which defines a key anew or, with None, no longer."""
        self._done.append((key, self._defined.get(key), value))
        self._undone = []
        self._define(key, value)

    def _define(self, key, value):
        if value is None:
            del self._defined[key]
        else:
            self._defined[key] = value


def _check_kind(kind, many):
    if kind not in BOOKS_OF_KIND or BOOKS_OF_KIND[kind] != many:
        raise InvalidQuestion(f"there is no question {kind} about {many} books")


def _alike_answer(one, other, limit):
    row = difference(one, other, limit=limit)
    return ("alike",) if row is None else ("unlike", len(row))

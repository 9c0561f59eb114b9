"""Feeds: several books that read one row together (points 62 to 64)."""

from fewestheld.books import is_name
from fewestheld.errors import InvalidQuestion, UnknownName
from fewestheld.matchings import check_same_words
from fewestheld.runs import check_row, read_rest

MOST_BOOKS = 6


class Feed:
    """Some books with names that read one row, read by read."""

    def __init__(self, books):
        self._books = _kept_books(books)
        self._names = tuple(self._books)
        self._stands = _starts(self._books)
        self.count = 0

    @property
    def names(self):
        """The tuple of the names of the books, in order."""
        return self._names

    def push(self, word, name):
        """Read a word with a name."""
        self.push_all([(word, name)])

    def push_all(self, row):
        """Read a row, or nothing of it if something in it is wrong."""
        # All books have the same words.
        check_row(self._books[self._names[0]], row)
        for name, book in self._books.items():
            place, held = self._stands[name]
            self._stands[name] = read_rest(book, place, held, row)
        self.count += len(row)

    def place(self, name):
        """Return the name of the place where a book is."""
        return self._stand(name)[0]

    def held(self, name):
        """Return the tuple of the names that a book holds, in the order of the slots."""
        return self._stand(name)[1]

    def answer(self, name):
        """Return the answer of a book."""
        place = self.place(name)
        return self._books[name].says_yes(place)

    def answers(self):
        """Return the names of all books with their answers."""
        return [(name, self.answer(name)) for name in self._names]

    def split(self):
        """Return the names of the books that say yes, and of those that say no."""
        told = self.answers()
        return ([name for name, yes in told if yes], [name for name, yes in told if not yes])

    def forgotten(self, name, row):
        """Return the names of a row that a book does not hold now, in the order in which they first stand in it."""
        held = self.held(name)
        found = {read_name: True for _, read_name in row if read_name not in held}
        return list(found)

    def copied(self):
        """Return a new Feed that stands where this one stands and goes on by itself."""
        other = Feed(list(self._books.items()))
        other.count = self.count
        other._stands = {name: stand for name, stand in self._stands.items()}
        return other

    def reset(self):
        """Go back to the beginning of the row."""
        self._stands = _starts(self._books)
        self.count = 0

    def _stand(self, name):
        if name not in self._stands:
            raise UnknownName(name)
        return self._stands[name]


def first_parting(books, row):
    """Return the number of reads behind which the books part for the first time, or None."""
    feed = Feed(books)
    for word, name in row:
        if _parts_now(feed):
            return feed.count
        feed.push(word, name)
    return feed.count if _parts_now(feed) else None


def _parts_now(feed):
    saying_yes, saying_no = feed.split()
    return len(saying_yes) > 0 and len(saying_no) > 0


def _starts(books):
    return {name: (book.start, ()) for name, book in books.items()}


def _kept_books(books):
    if not 1 <= len(books) <= MOST_BOOKS:
        raise InvalidQuestion(f"a feed has 1 to {MOST_BOOKS} books")
    _, first = books[0]
    kept = {}
    for name, book in books:
        if not is_name(name) or name in kept:
            raise InvalidQuestion(f"this is no name, or it stands twice: {name}")
        check_same_words(first, book)
        kept[name] = book
    return kept

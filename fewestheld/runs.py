"""Rows, and how a book reads them (points 15 to 18)."""

from fewestheld.books import is_name
from fewestheld.errors import InvalidQuestion, InvalidRow, TooMany


def run(book, row):
    """Return the place behind a row, and the names that its slots hold."""
    return trace(book, row)[-1]


def trace(book, row):
    """Return the places with the names of their slots, at the start and behind each read."""
    check_row(book, row)
    place, held = book.start, ()
    found = [(place, held)]
    for word, name in row:
        place, held = read_on(book, place, held, word, name)
        found.append((place, held))
    return found


def cases(book, row):
    """Return the cases of the reads of a row."""
    stands = trace(book, row)
    return [case_of(stand[1], read[1]) for stand, read in zip(stands, row)]


def answers(book, row):
    """Return the answers at the start and behind each read of a row."""
    return [book.says_yes(place) for place, _ in trace(book, row)]


def says(book, row):
    """Return the answer behind a row."""
    return book.says_yes(run(book, row)[0])


def names_of(row):
    """Return the different names of a row, in the order in which they are read first."""
    check_names(row)
    seen = {name: True for _, name in row}
    return list(seen)


def kind_of(row):
    """Return the row of the same kind with the names a1, a2 and so on."""
    told = {name: told_name(at + 1) for at, name in enumerate(names_of(row))}
    return [(word, told[name]) for word, name in row]


def same_kind(one, other):
    """Tell whether two rows have the same kind."""
    return kind_of(one) == kind_of(other)


def renamed(row, table):
    """Return the row with each name that is a key of the table exchanged for its value."""
    names = names_of(row)
    new_names = [table.get(name, name) for name in names]
    if len(set(new_names)) < len(names):
        raise InvalidQuestion("two names of the row become one")
    for name in new_names:
        _check_name(name)
    return [(word, table.get(name, name)) for word, name in row]


def kinds_of_rows(book, many, *, limit=2000):
    """Return the rows of all kinds with so many reads, in order."""
    if many < 0:
        raise InvalidQuestion("a row has no less than 0 reads")
    if limit < 1:
        raise TooMany(limit)
    found = [([], 0)]
    for _ in range(many):
        # No row is the last of its kind: if there are too many now, there are too many in the end.
        if len(book.words) * sum([names + 1 for _, names in found]) > limit:
            raise TooMany(limit)
        found = _longer_rows(book, found)
    return [row for row, _ in found]


def check_row(book, row):
    """Raise UnknownName for a strange word of a row, then InvalidRow for what is no name."""
    for word, _ in row:
        book.check_word(word)
    check_names(row)


def check_names(row):
    """Raise InvalidRow if something in a row is no name."""
    for _, name in row:
        _check_name(name)


def told_name(number):
    """Return the name of this number in rows that are told."""
    return f"a{number}"


def case_of(held, name):
    """Return the number of the slot that holds a name, or 0."""
    return held.index(name) + 1 if name in held else 0


def read_on(book, place, held, word, name):
    """Return the place behind one further read, and the names that it holds."""
    goal, moves = book.rule(place, word, case_of(held, name))
    return goal, tuple([held[source - 1] if source else name for source in moves])


def read_rest(book, place, held, rest):
    """Return the place behind a rest that is read at a place that holds names, and the names held then."""
    for word, name in rest:
        place, held = read_on(book, place, held, word, name)
    return place, held


def kept_row(row):
    """Return a row as a tuple of tuples."""
    return tuple([tuple(read) for read in row])


def _check_name(name):
    if not is_name(name):
        raise InvalidRow(f"this is no name: {name}")


def _longer_rows(book, found):
    longer = []
    for row, names in found:
        for word in book.words:
            for number in range(1, names + 2):
                longer.append((row + [(word, told_name(number))], max(names, number)))
    return longer

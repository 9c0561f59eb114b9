"""First shortest rows to places and answers, and rows with the fewest names (points 51 to 58)."""

from fewestheld.searches import first_rows


def ever_reached(book):
    """Return the names of the places that some row reaches, in the order of the book."""
    rows = first_rows(book)
    return [name for name in book.place_names if name in rows]


def never_reached(book):
    """Return the names of the places that no row reaches, in the order of the book."""
    rows = first_rows(book)
    return [name for name in book.place_names if name not in rows]


def first_row_to(book, name):
    """Return the first shortest row that reaches a place, or None."""
    book.place(name)
    return first_rows(book).get(name)


def first_answer(book, *, yes=True):
    """Return the first shortest row with the answer, or None."""
    return _first_with(book, first_rows(book), yes)


def fewest_names(book, *, yes=True):
    """Return the fewest names for the answer and the row for them, or None."""
    # With one name more than there are slots, there is always a name that is in none.
    most = max([slots for _, slots, _ in book.places]) + 1
    for names in range(most + 1):
        row = _first_with(book, first_rows(book, names), yes)
        if row is not None:
            return (names, row)
    return None


def _first_with(book, rows, yes):
    # The rows stand in their order, and a first shortest row with the answer is one to the place where it ends.
    for place, row in rows.items():
        if book.says_yes(place) == yes:
            return row
    return None

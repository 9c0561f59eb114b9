"""Books that are compared by the rows behind which they answer in each way (points 78 to 82)."""

from fewestheld.alike import Walk
from fewestheld.matchings import check_same_words

WAYS = ((False, False), (False, True), (True, False), (True, True))


def first_row(one, other, answers, *, limit=20000):
    """Return the first row behind which two books answer in this way, or None."""
    way = tuple(answers)
    return _found_rows(one, other, (way,), limit).get(way)


def first_rows(one, other, *, limit=20000):
    """Return each way with the first row behind which two books answer so, or None."""
    found = _found_rows(one, other, WAYS, limit)
    return [(way, found.get(way)) for way in WAYS]


def is_within(one, other, *, limit=20000):
    """Tell whether the second book says yes wherever the first one does."""
    return first_row(one, other, (True, False), limit=limit) is None


def relation(one, other, *, limit=20000):
    """Return the word for how two books stand to each other."""
    inside = is_within(one, other, limit=limit)
    outside = is_within(other, one, limit=limit)
    if inside and outside:
        return "alike"
    if inside:
        return "within"
    if outside:
        return "around"
    return "apart" if first_row(one, other, (True, True), limit=limit) is None else "across"


def widest(books, *, limit=20000):
    """Return the number of the first book within which all books of a list are, or None."""
    for book in books:
        # Unlike words come ahead of all searches.
        check_same_words(books[0], book)
    for at, book in enumerate(books):
        if _holds_all(book, books[:at] + books[at + 1:], limit):
            return at
    return None


def _holds_all(book, others, limit):
    for other in others:
        if not is_within(other, book, limit=limit):
            return False
    return True


def _found_rows(one, other, ways, limit):
    """Return a dict with the first row of each of some ways, as far as there are any.

    The search ends with the row of the last one of these ways, whose triple is not counted.
    """
    check_same_words(one, other)
    way = _way(one, other, one.start, other.start)
    found = {way: []} if way in ways else {}
    if len(found) == len(ways):
        return found
    walk = Walk(one, other, limit)
    at = 0
    while at < len(walk.triples):
        steps = walk.steps_at(at)
        for read, stand in steps:
            way = _way(one, other, stand[0], stand[2])
            if way in ways and way not in found:
                found[way] = walk.row_with(read)
                if len(found) == len(ways):
                    return found
            walk.come_to(read, stand)
        at += 1
    return found


def _way(one, other, place, opposite):
    return (one.says_yes(place), other.says_yes(opposite))

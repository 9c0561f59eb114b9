"""The least book, and what stands in it for the places of a book (points 40 to 43)."""

from itertools import permutations

from fewestheld.books import Book
from fewestheld.idle import kept_at, reached_places
from fewestheld.searches import Search


def least(book, *, limit=20000):
    """Return a least book that is alike to the book."""
    return least_by(book, standing(book, Search(book, limit)))


def place_map(book, *, limit=20000):
    """Return each place with the place of the least book that stands for it, and the slots that it tells."""
    table = standing(book, Search(book, limit))
    names = least_names(table)
    found = []
    for name in book.place_names:
        first, slots = table.get(name, (None, []))
        found.append((name, names.get(first), tuple(slots)))
    return found


def is_least(book, *, limit=20000):
    """Tell whether a book is as large as its least book."""
    return is_least_by(book, Search(book, limit))


def is_least_by(book, search):
    """Tell whether a book is as large as its least book, as a search in this book finds it."""
    table = standing(book, search)
    if len(least_names(table)) < len(book.places):
        return False
    return all([len(table[name][1]) == slots for name, slots, _ in book.places])


def standing(book, search):
    """Return a dict with, for each reached place, the first place that is one with it, and a list of slots.

    The places stand in the order of first coming. The slots are those of the place that are matched with the
    slots of the first place that are not idle, in the order of the slots of the first place.
    """
    table = {}
    there = reached_places(book)
    for place in there:
        table[place] = _first_one(book, search, table, place)
    return table


def least_by(book, table):
    """Return the book with a place for each of the first places of a table that standing returns."""
    names = least_names(table)
    places = [(names[place], len(table[place][1]), book.says_yes(place)) for place in names]
    rules = []
    for place in names:
        cases = range(len(table[place][1]) + 1)
        rules.extend([_least_rule(book, table, place, word, case) for word in book.words for case in cases])
    told = [(names[place], word, case, names[goal], moves) for place, word, case, goal, moves in rules]
    return Book(words=book.words, places=places, start=names[book.start], rules=told)


def least_names(table):
    """Return a dict with the name in the least book of each of the first places of a table, in order."""
    return {place: f"p{at + 1}" for at, place in enumerate(_firsts(table))}


def least_case(kept, case):
    """Return the case of a place for a case of the one that stands for it with the slots that are kept."""
    return kept[case - 1] if case else 0


def least_source(kept, source):
    """Return the source at the place that stands for one with the slots that are kept."""
    return kept.index(source) + 1 if source else 0


def _first_one(book, search, table, place):
    kept = kept_at(book, search, place)
    for first in _firsts(table):
        slots = _matched_slots(search, (first, table[first][1]), (place, kept))
        if slots is not None:
            return (first, slots)
    return (place, kept)


def _firsts(table):
    return [place for place in table if table[place][0] == place]


def _matched_slots(search, first, place):
    """Return slots of the second place under whose matching with the slots of the first one both are alike."""
    first_name, first_kept = first
    name, kept = place
    if len(first_kept) != len(kept):
        return None
    if search.is_alike((first_name, name, tuple(zip(first_kept, kept)))):
        return kept
    for order in permutations(kept):
        triple = (first_name, name, tuple(zip(first_kept, order)))
        if not search.rules_out(triple) and search.is_alike(triple):
            return list(order)
    return None


def _least_rule(book, table, place, word, case):
    """Return the rule of the least book for a first place, with the names of first places."""
    kept = table[place][1]
    goal, moves = book.rule(place, word, least_case(kept, case))
    first, slots = table[goal]
    # A slot that is not idle never takes the name of one that is (point 38).
    return (place, word, case, first, tuple([least_source(kept, moves[slot - 1]) for slot in slots]))

"""Trials that show that two places are not alike under a matching (points 100 and 101)."""

from fewestheld.errors import InvalidQuestion
from fewestheld.matchings import checked_triple, same_names
from fewestheld.runs import check_row, kept_row, names_of, read_rest, renamed, run
from fewestheld.searches import Search, first_rows, new_names, rest_along


class Trial:
    """Two rows that lead to two places, and a rest behind which the answers are unlike."""

    def __init__(self, first, second, rest):
        self.first = kept_row(first)
        self.second = kept_row(second)
        self.rest = kept_row(rest)


def trial(book, place, other, pairs, *, limit=20000):
    """Return a right trial with a shortest rest, or None if the places are alike under the matching."""
    triple = checked_triple(book, book, (place, other, pairs))
    rows = first_rows(book)
    if place not in rows or other not in rows:
        raise InvalidQuestion("no row leads to the place")
    way = Search(book, limit).way(triple)
    if way is None:
        return None
    first = rows[place]
    stand = run(book, first)
    second = _matched_row(book, rows[other], stand[1], triple[2])
    new = new_names(names_of(first + second), len(way))
    return Trial(first, second, rest_along(book, stand, run(book, second), way, new))


def check_trial(book, place, other, pairs, told):
    """Tell whether a trial is right."""
    triple = checked_triple(book, book, (place, other, pairs))
    for row in (told.first, told.second, told.rest):
        check_row(book, row)
    one, held = run(book, told.first)
    two, other_held = run(book, told.second)
    if (one, two, same_names(held, other_held)) != triple:
        return False
    goal, _ = read_rest(book, one, held, told.rest)
    other_goal, _ = read_rest(book, two, other_held, told.rest)
    return book.says_yes(goal) != book.says_yes(other_goal)


def _matched_row(book, row, held, pairs):
    """Return the row with names of its own, but for the matched slots, which hold the names of the first place."""
    table = {name: f"b{name}" for name in names_of(row)}
    _, own = run(book, row)
    for slot, matched in pairs:
        table[own[matched - 1]] = held[slot - 1]
    return renamed(row, table)

"""The names of a row that a book has to remember (points 102 to 107)."""

from fewestheld.errors import InvalidQuestion
from fewestheld.idle import all_but, kept_at
from fewestheld.runs import case_of, check_row, names_of, read_rest, renamed, run, says
from fewestheld.searches import Search, first_rows, new_names, rest_along


def remembered(book, row, *, limit=20000):
    """Return the names that have to be remembered behind a row, in the order of their first reading."""
    place, held = run(book, row)
    kept = [held[slot - 1] for slot in kept_at(book, Search(book, limit), place)]
    return [name for name in names_of(row) if name in kept]


def shown(book, row, name, *, limit=20000):
    """Return another name and a shortest rest that show that a name has to be remembered, or None."""
    place, held = run(book, row)
    names = names_of(row)
    if name not in names:
        raise InvalidQuestion(f"the row does not have the name {name}")
    if name not in held:
        return None
    way = Search(book, limit).way((place, place, all_but(len(held), case_of(held, name))))
    if way is None:
        return None
    strange, other, *new = new_names(names, len(way) + 2)
    changed = _exchanged(held, name, strange)
    rest = rest_along(book, (place, held), (place, changed), way, new)
    # The rest may read the strange name, too. If the first answer is that with the other name, which it does
    # not read, then the second one is not, and with both names turned it is the second place that holds the name.
    if _answer(book, place, held, rest) == _answer(book, place, _exchanged(held, name, other), rest):
        rest = renamed(rest, {name: strange, strange: name})
    return (other, rest)


def check_shown(book, row, name, told):
    """Tell whether another name and a rest show that a name has to be remembered."""
    other, rest = told
    check_row(book, row)
    check_row(book, rest)
    names = names_of(row)
    if name not in names or other in names or other in names_of(rest):
        return False
    # This raises InvalidRow if the other name is none.
    changed = renamed(row, {name: other})
    return says(book, list(row) + list(rest)) != says(book, changed + list(rest))


def most_remembered(book, *, limit=20000):
    """Return the greatest number of names that have to be remembered, and a row behind which so many have."""
    search = Search(book, limit)
    most, found = 0, []
    rows = first_rows(book)
    for place, row in rows.items():
        many = len(kept_at(book, search, place))
        if many > most:
            most, found = many, row
    return (most, found)


def is_idle(book, place, slot, *, limit=20000):
    """Tell whether a slot of a place is idle."""
    slots = book.slots(place)
    if not 1 <= slot <= slots:
        raise InvalidQuestion(f"the place {place} has no slot {slot}")
    return Search(book, limit).is_alike((place, place, all_but(slots, slot)))


def _exchanged(held, name, other):
    return tuple([other if own == name else own for own in held])


def _answer(book, place, held, rest):
    goal, _ = read_rest(book, place, held, rest)
    return book.says_yes(goal)

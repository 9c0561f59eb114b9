"""Slots that do not matter (points 35 to 39)."""

from itertools import permutations

from fewestheld.searches import Search


def reached_places(book):
    """Return the places that rows lead to, in the order of first coming."""
    found = [book.start]
    at = 0
    while at < len(found):
        goals = _goals(book, found[at])
        for goal in goals:
            if goal not in found:
                found.append(goal)
        at += 1
    return found


def idle_slots(book, *, limit=20000):
    """Return the reached places, in the order of the book, each with its idle slots."""
    search = Search(book, limit)
    there = reached_places(book)
    return [(name, idle_at(book, search, name)) for name in book.place_names if name in there]


def symmetries(book, place, *, limit=20000):
    """Return the matchings of the slots that are not idle under which a place and itself are alike."""
    slots = book.slots(place)
    search = Search(book, limit)
    idle = idle_at(book, search, place)
    kept = [slot for slot in range(1, slots + 1) if slot not in idle]
    found = []
    for order in permutations(kept):
        pairs = tuple(zip(kept, order))
        if search.is_alike((place, place, pairs)):
            found.append(pairs)
    return found


def idle_at(book, search, place):
    """Return the idle slots of a place, as a search in this book finds them."""
    slots = list(range(1, book.slots(place) + 1))
    found = []
    for slot in slots:
        others = tuple([(one, one) for one in slots if one != slot])
        if search.is_alike((place, place, others)):
            found.append(slot)
    return tuple(found)


def _goals(book, place):
    return [rule[3] for rule in book.rules if rule[0] == place]

"""Slots that do not matter (points 35 to 39)."""

from itertools import permutations

from fewestheld.matchings import full
from fewestheld.searches import Search


def reached_places(book):
    """Return the places that rows lead to, in the order of first coming."""
    found = [book.start]
    at = 0
    while at < len(found):
        goals = _goals(book, found[at])
        for goal in goals:
            if goal not in found:
                found.append(goal)
        at += 1
    return found


def idle_slots(book, *, limit=20000):
    """Return the reached places, in the order of the book, each with its idle slots."""
    search = Search(book, limit)
    there = reached_places(book)
    return [(name, idle_at(book, search, name)) for name in book.place_names if name in there]


def symmetries(book, place, *, limit=20000):
    """Return the matchings of the slots that are not idle under which a place and itself are alike."""
    book.place(place)
    search = Search(book, limit)
    kept = kept_at(book, search, place)
    found = []
    for order in permutations(kept):
        pairs = tuple(zip(kept, order))
        if search.is_alike((place, place, pairs)):
            found.append(pairs)
    return found


def idle_at(book, search, place):
    """Return the idle slots of a place, as a search in this book finds them."""
    slots = book.slots(place)
    return tuple([slot for slot in range(1, slots + 1) if search.is_alike((place, place, all_but(slots, slot)))])


def kept_at(book, search, place):
    """Return the list of the slots of a place that are not idle, as a search in this book finds them."""
    idle = idle_at(book, search, place)
    return [slot for slot in range(1, book.slots(place) + 1) if slot not in idle]


def all_but(slots, slot):
    """Return the matching of a place with itself that matches each slot but this one with itself."""
    return tuple([pair for pair in full(slots) if pair[0] != slot])


def _goals(book, place):
    return [rule[3] for rule in book.rules if rule[0] == place]

"""Evidence that a book is a least one (points 43 and 44)."""

from itertools import combinations, permutations

from fewestheld.idle import all_but
from fewestheld.least import is_least_by
from fewestheld.runs import check_row, kept_row, read_rest, run
from fewestheld.searches import Search, first_rows, new_names, rest_along


class Evidence:
    """Rows that lead to the places of a book, and rests that tell apart its places and the names in its slots."""

    def __init__(self, leads, apart, needed):
        self.leads = [(place, kept_row(row)) for place, row in leads]
        self.apart = [(one, other, kept_row(pairs), kept_row(rest)) for one, other, pairs, rest in apart]
        self.needed = [(place, slot, kept_row(rest)) for place, slot, rest in needed]


def evidence(book, *, limit=20000):
    """Return the Evidence that a book is a least one, or None if it is none."""
    search = Search(book, limit)
    if not is_least_by(book, search):
        return None
    whole = [(one, other, pairs) for one, other, slots in _like_places(book) for pairs in _whole_matchings(slots)]
    lacking = _lacking_triples(book)
    search.find_ways(whole + list(lacking.values()))
    rows = first_rows(book)
    leads = [(place, rows[place]) for place in book.place_names]
    apart = [triple + (_found_rest(book, search, triple),) for triple in whole]
    needed = [key + (_found_rest(book, search, lacking[key]),) for key in lacking]
    return Evidence(leads, apart, needed)


def check_evidence(book, told):
    """Tell whether an Evidence shows that a book is a least one."""
    rows = [lead[1] for lead in told.leads] + [item[3] for item in told.apart] + [item[2] for item in told.needed]
    for row in rows:
        check_row(book, row)
    return _lead_everywhere(book, told.leads) and _tell_apart(book, told.apart) and _need_slots(book, told.needed)


def _lead_everywhere(book, leads):
    led_to = {place: True for place, row in leads if run(book, row)[0] == place}
    return all([place in led_to for place in book.place_names])


def _tell_apart(book, apart):
    rests = {(one, other, pairs): rest for one, other, pairs, rest in apart}
    for one, other, slots in _like_places(book):
        for pairs in _whole_matchings(slots):
            triple = (one, other, pairs)
            if triple not in rests or not _is_unlike(book, triple, rests[triple]):
                return False
    return True


def _need_slots(book, needed):
    rests = {(place, slot): rest for place, slot, rest in needed}
    lacking = _lacking_triples(book)
    for key, triple in lacking.items():
        if key not in rests or not _is_unlike(book, triple, rests[key]):
            return False
    return True


def _like_places(book):
    """Return each two places with as many slots, the one ahead of the other, and the number of their slots."""
    places = list(book.places)
    return [(one[0], other[0], one[1]) for one, other in combinations(places, 2) if one[1] == other[1]]


def _whole_matchings(slots):
    """Return the matchings of all slots of two places with so many."""
    numbers = list(range(1, slots + 1))
    return [tuple(zip(numbers, order)) for order in permutations(numbers)]


def _lacking_triples(book):
    """Return a dict with, for each slot of each place, the triple of the place and all slots but this one."""
    return {(place, slot): (place, place, all_but(slots, slot))
            for place, slots, _ in book.places for slot in range(1, slots + 1)}


def _stands(book, triple):
    """Return both places with the names that the evidence puts into their slots."""
    place, other, pairs = triple
    matched = {slot: f"s{own}" for own, slot in pairs}
    held = tuple([f"s{slot}" for slot in range(1, book.slots(place) + 1)])
    return (place, held), (other, tuple([matched.get(slot, f"t{slot}") for slot in range(1, book.slots(other) + 1)]))


def _found_rest(book, search, triple):
    stand, other_stand = _stands(book, triple)
    way = search.way(triple)
    return rest_along(book, stand, other_stand, way, new_names((), len(way)))


def _is_unlike(book, triple, rest):
    """Tell whether the answers behind a rest that is read at both places are unlike."""
    (place, held), (other, other_held) = _stands(book, triple)
    goal, _ = read_rest(book, place, held, rest)
    other_goal, _ = read_rest(book, other, other_held, rest)
    return book.says_yes(goal) != book.says_yes(other_goal)

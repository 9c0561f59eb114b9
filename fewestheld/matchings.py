"""Matchings of slots, and triples of two places and a matching (points 19 to 28)."""

from itertools import combinations, permutations

from fewestheld.errors import InvalidQuestion, TooMany
from fewestheld.runs import run


def matchings(one, other):
    """Return all matchings of two places with so many slots, in order."""
    found = []
    for many in range(min(one, other) + 1):
        for slots in combinations(range(1, one + 1), many):
            for matched in permutations(range(1, other + 1), many):
                found.append(tuple(zip(slots, matched)))
    return found


def is_matching(one, other, pairs):
    """Tell whether pairs are a matching of two places with so many slots."""
    last = 0
    taken = {}
    for pair in pairs:
        if not _is_pair(pair):
            return False
        slot, matched = pair
        if not last < slot <= one or not 1 <= matched <= other or matched in taken:
            return False
        last = slot
        taken[matched] = True
    return True


def full(slots):
    """Return the matching of a place with itself that matches each slot with itself."""
    return tuple([(slot, slot) for slot in range(1, slots + 1)])


def turned(pairs):
    """Return the matching as it is seen from the other side."""
    return tuple(sorted([(matched, slot) for slot, matched in pairs]))


def composed(first, second):
    """Return the matching of the slots that both match with the same slot between them."""
    onward = {slot: matched for slot, matched in second}
    return tuple([(slot, onward[middle]) for slot, middle in first if middle in onward])


def kinds(one, other, pairs):
    """Return the kinds of names behind a matching of two places with so many slots."""
    onward = {slot: matched for slot, matched in pairs}
    taken = {matched: True for _, matched in pairs}
    found = [(slot, onward.get(slot, 0)) for slot in range(1, one + 1)]
    found.extend([(0, slot) for slot in range(1, other + 1) if slot not in taken])
    found.append((0, 0))
    return found


def behind(first, second, triple, word, kind):
    """Return the triple behind a read."""
    place, other, pairs = triple
    goal, moves = first.rule(place, word, kind[0])
    other_goal, other_moves = second.rule(other, word, kind[1])
    return (goal, other_goal, _matched_sources(same_sources(pairs, kind), moves, other_moves))


def steps(first, second, triple):
    """Return the tuples of a word, a kind and the triple behind, in order."""
    check_same_words(first, second)
    return steps_from(first, second, checked_triple(first, second, triple))


def agree(first, second, triple):
    """Tell whether both places of a triple have the same answer."""
    yes = first.says_yes(triple[0])
    return yes == second.says_yes(triple[1])


def triple_of(first, second, row):
    """Return the triple behind a row."""
    check_same_words(first, second)
    place, held = run(first, row)
    other, other_held = run(second, row)
    return (place, other, same_names(held, other_held))


def reached(first, second, triple, *, limit=20000):
    """Return the triples that reads lead to from a triple, itself first."""
    check_same_words(first, second)
    start = checked_triple(first, second, triple)
    if limit < 1:
        raise TooMany(limit)
    found = {start: True}
    waiting = [start]
    while waiting:
        steps_behind = steps_from(first, second, waiting.pop())
        for _, _, goal in steps_behind:
            if goal not in found:
                if len(found) >= limit:
                    raise TooMany(limit)
                found[goal] = True
                waiting.append(goal)
    return list(found)


def is_closed(first, second, triples):
    """Tell whether a list of triples is closed (point 24)."""
    check_same_words(first, second)
    kept = [checked_triple(first, second, triple) for triple in triples]
    there = {triple: True for triple in kept}
    for triple in there:
        if not agree(first, second, triple):
            return False
        if not all([step[2] in there for step in steps_from(first, second, triple)]):
            return False
    return True


def check_same_words(first, second):
    """Raise InvalidQuestion if two books do not have the same words in the same order."""
    if first.words != second.words:
        raise InvalidQuestion("the books have unlike words")


def checked_triple(first, second, triple):
    """Return a triple as tuples through and through, or raise as point 28 tells."""
    place, other, pairs = triple
    slots = first.slots(place)
    if not is_matching(slots, second.slots(other), pairs):
        raise InvalidQuestion("the pairs are no matching of the slots")
    return (place, other, tuple([tuple(pair) for pair in pairs]))


def steps_from(first, second, triple):
    """Return what steps does, for a triple that is known to be one of the books."""
    place, other, pairs = triple
    told = kinds(first.slots(place), second.slots(other), pairs)
    return [(word, kind, behind(first, second, triple, word, kind)) for word in first.words for kind in told]


def same_sources(pairs, kind):
    """Return a dict with the source of the second place for each one of the first place that is the same name."""
    same = {slot: matched for slot, matched in pairs}
    # The name that is read has these two cases, so as a source it is the same name in both books.
    same[kind[0]] = kind[1]
    return same


def same_names(held, other_held):
    """Return the matching of the slots that hold the same names."""
    return tuple([(at + 1, other_held.index(name) + 1) for at, name in enumerate(held) if name in other_held])


def _is_pair(pair):
    if not isinstance(pair, (list, tuple)) or len(pair) != 2:
        return False
    return isinstance(pair[0], int) and isinstance(pair[1], int)


def _matched_sources(same, moves, other_moves):
    pairs = []
    for at, source in enumerate(moves):
        if source in same and same[source] in other_moves:
            pairs.append((at + 1, other_moves.index(same[source]) + 1))
    return tuple(pairs)

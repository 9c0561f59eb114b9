"""Books that several tests use."""

import itertools
import random

from fewestheld.books import Book
from fewestheld.writers import Writer


def small_parts():
    """The parts of the first book of the interface."""
    return {
        "words": ["in"],
        "places": [("a", 0, True), ("b", 1, False)],
        "start": "a",
        "rules": [("a", "in", 0, "b", [0]), ("b", "in", 1, "a", []), ("b", "in", 0, "b", [1])],
    }


def small_book():
    return Book(**small_parts())


def two_words():
    """A book with two words, three places and two slots."""
    rules = [
        ("zero", "put", 0, "one", (0,)),
        ("zero", "ask", 0, "zero", ()),
        ("one", "put", 0, "two", (0, 1)),
        ("one", "put", 1, "one", (1,)),
        ("one", "ask", 0, "one", (1,)),
        ("one", "ask", 1, "zero", ()),
        ("two", "put", 0, "two", (0, 2)),
        ("two", "put", 1, "two", (2, 1)),
        ("two", "put", 2, "two", (1, 2)),
        ("two", "ask", 0, "two", (2, 1)),
        ("two", "ask", 1, "one", (2,)),
        ("two", "ask", 2, "one", (1,)),
    ]
    places = [("zero", 0, False), ("one", 1, True), ("two", 2, False)]
    return Book(words=("put", "ask"), places=places, start="zero", rules=rules)


def parts(book):
    return (book.words, book.places, book.start, book.rules)


def random_book(seed, *, words=("in",), most_places=4, most_slots=2):
    """A book whose rules are drawn, the same one for the same seed."""
    draw = random.Random(seed)
    places = [("p0", 0, draw.random() < 0.5)]
    for number in range(1, draw.randint(1, most_places)):
        places.append((f"p{number}", draw.randint(0, most_slots), draw.random() < 0.5))
    rules = []
    for name, slots, _ in places:
        for word in words:
            for case in range(slots + 1):
                sources = list(range(1 if case else 0, slots + 1))
                goal = draw.choice([place for place in places if place[1] <= len(sources)])
                rules.append((name, word, case, goal[0], tuple(draw.sample(sources, goal[1]))))
    return Book(words=words, places=places, start="p0", rules=rules)


def twice():
    """A book that says yes if the last two names were the same."""
    rules = [("s", "in", 0, "one", (0,)), ("one", "in", 0, "one", (0,)), ("one", "in", 1, "yes", (1,)),
             ("yes", "in", 0, "one", (0,)), ("yes", "in", 1, "yes", (1,))]
    places = [("s", 0, False), ("one", 1, False), ("yes", 1, True)]
    return Book(words=["in"], places=places, start="s", rules=rules)


def again(moves=(1,)):
    """A book that says yes once its first name comes again, or with (0,) for moves the last one."""
    places = [("start", 0, False), ("one", 1, False), ("again", 0, True)]
    rules = [("start", "in", 0, "one", (0,)), ("one", "in", 0, "one", moves), ("one", "in", 1, "again", ()),
             ("again", "in", 0, "again", ())]
    return Book(words=["in"], places=places, start="start", rules=rules)


def idle_book():
    """The book of the interface with idle slots."""
    places = [("start", 0, False), ("two", 2, False), ("end", 1, True), ("one", 1, False)]
    rules = [("start", "in", 0, "one", (0,)), ("one", "in", 0, "two", (0, 1)), ("one", "in", 1, "one", (1,)),
             ("two", "in", 0, "two", (1, 2)), ("two", "in", 1, "two", (1, 2)), ("two", "in", 2, "end", (2,)),
             ("end", "in", 0, "end", (0,)), ("end", "in", 1, "end", (1,))]
    return Book(words=["in"], places=places, start="start", rules=rules)


def set_book():
    """A book that keeps two names and says yes if one of them is read: its slots may be exchanged."""
    places = [("s", 0, False), ("one", 1, False), ("both", 2, False), ("hit", 2, True)]
    rules = [("s", "in", 0, "one", (0,)), ("one", "in", 0, "both", (1, 0)), ("one", "in", 1, "one", (1,))]
    for name in ("both", "hit"):
        rules += [(name, "in", 0, "both", (1, 2)), (name, "in", 1, "hit", (2, 1)), (name, "in", 2, "hit", (1, 2))]
    return Book(words=["in"], places=places, start="s", rules=rules)


def crossed_book():
    """A book with two places that are one if the slots of the one are matched crosswise with those of the other.

    It says yes once the first of the two names that are held is read again; the place far is not reached.
    """
    places = [("far", 1, True), ("cross", 2, False), ("s", 0, False), ("one", 1, False), ("pair", 2, False),
              ("end", 0, True)]
    rules = [("s", "in", 0, "one", (0,)), ("one", "in", 0, "pair", (1, 0)), ("one", "in", 1, "one", (1,)),
             ("pair", "in", 0, "pair", (2, 0)), ("pair", "in", 1, "end", ()), ("pair", "in", 2, "cross", (2, 1)),
             ("cross", "in", 0, "cross", (0, 1)), ("cross", "in", 1, "pair", (2, 1)), ("cross", "in", 2, "end", ()),
             ("end", "in", 0, "end", ()), ("far", "in", 0, "far", (0,)), ("far", "in", 1, "one", (1,))]
    return Book(words=["in"], places=places, start="s", rules=rules)


def drawn_copies(book, draw):
    """The names of the copies of each place, and for each copy a drawn order of the slots of its place."""
    sign = "q" if not any(name.endswith("q") for name in book.place_names) else "r"
    copies = {name: [name] if name == book.start else [name, name + sign] for name in book.place_names}
    order = {copy: draw.sample(range(1, book.slots(name) + 1), book.slots(name))
             for name, told in copies.items() for copy in told}
    return copies, {copy: {0: 0, **{old: at for at, old in enumerate(slots, 1)}} for copy, slots in order.items()}


def doubled(book, seed):
    """A book that is alike, with two places for each one but the start, whose slots stand in drawn orders."""
    draw = random.Random(seed)
    copies, there = drawn_copies(book, draw)
    rules = []
    for place, word, case, goal, moves in book.rules:
        for copy in copies[place]:
            new = draw.choice(copies[goal])
            old_slots = sorted(range(1, len(moves) + 1), key=there[new].get)
            rules.append((copy, word, there[copy][case], new, [there[copy][moves[old - 1]] for old in old_slots]))
    places = [(copy, slots, yes) for name, slots, yes in book.places for copy in copies[name]]
    draw.shuffle(places)
    return Book(words=book.words, places=places, start=book.start, rules=rules)


def doubled_writer(writer, seed):
    """A writer that writes alike, with the book that is doubled."""
    copies, there = drawn_copies(writer.book, random.Random(seed))
    rows = [(copy, word, there[copy][case], [(told, there[copy][source]) for told, source in pairs])
            for place, word, case, pairs in writer.rows for copy in copies[place]]
    return Writer(doubled(writer.book, seed), rows)


def random_writer(seed, *, words=("in",), most_places=4, most_slots=2, many=2):
    """A writer whose book and rows are drawn, with up to so many pairs at each rule."""
    draw = random.Random(seed)
    book = random_book(seed, words=words, most_places=most_places, most_slots=most_slots)
    rows = []
    for place, word, case, _, _ in book.rules:
        sources = list(range(1 if case else 0, book.slots(place) + 1))
        pairs = [(draw.choice("gh"), draw.choice(sources)) for _ in range(draw.choice((0, 0, draw.randint(0, many))))]
        rows.append((place, word, case, pairs))
    return Writer(book, rows)


def wide_book():
    """A book with so many places of six slots that are not one that more than 20000 matchings have to be looked at."""
    places = [(f"f{held}", held, False) for held in range(6)] + [(f"r{at}", 6, at == 0) for at in range(40)]
    rules = []
    for held in range(6):
        every = tuple(range(1, held + 1))
        goal = f"f{held + 1}" if held < 5 else "r0"
        rules += [(f"f{held}", "in", 0, goal, every + (0,))]
        rules += [(f"f{held}", "in", case, f"f{held}", every) for case in every]
    for at in range(40):
        rules += [(f"r{at}", "in", case, f"r{(at + 1) % 40}", (2, 3, 4, 5, 6, 1)) for case in (0, 2, 3, 4, 5, 6)]
        rules += [(f"r{at}", "in", 1, "r0", (1, 2, 3, 4, 5, 6))]
    return Book(words=["in"], places=places, start="f0", rules=rules)


def one_place(word="in", yes=False):
    """A book with one place, one word and no slots."""
    return Book(words=[word], places=[("p", 0, yes)], start="p", rules=[("p", word, 0, "p", ())])


def kind_rows(words, many):
    """The rows of all kinds with so many reads, in order, made without the program."""
    rows = [[]]
    for _ in range(many):
        rows = [row + [(word, f"a{number}")] for row in rows for word in words
                for number in range(1, len({name for _, name in row}) + 2)]
    return rows


def read_plainly(book, row, place=None, held=()):
    """The place and the names behind a row, read without the program's runs."""
    place = place or book.start
    for word, name in row:
        case = held.index(name) + 1 if name in held else 0
        goal, moves = next((rule[3], rule[4]) for rule in book.rules if rule[:3] == (place, word, case))
        held = tuple(held[source - 1] if source else name for source in moves)
        place = goal
    return place, held


def answer_plainly(book, row, place=None, held=()):
    return next(yes for name, _, yes in book.places if name == read_plainly(book, row, place, held)[0])


def matchings_plainly(one, other):
    """All matchings in the order of point 19, from the sets of all pairs."""
    pairs = [(slot, matched) for slot in range(1, one + 1) for matched in range(1, other + 1)]
    found = []
    for some in range(2 ** len(pairs)):
        told = tuple(pair for at, pair in enumerate(pairs) if some >> at & 1)
        if len({slot for slot, _ in told}) == len({matched for _, matched in told}) == len(told):
            found.append(told)
    return sorted(found, key=lambda told: (len(told), [pair[0] for pair in told], [pair[1] for pair in told]))


def behind_plainly(first, second, triple, word):
    """All triples behind a triple by one word, by reading real names."""
    place, other, told = triple
    held = tuple(f"x{slot}" for slot in range(1, first.slots(place) + 1))
    match = {matched: slot for slot, matched in told}
    other_held = tuple(f"x{match[slot]}" if slot in match else f"y{slot}"
                       for slot in range(1, second.slots(other) + 1))
    names = list(held) + [name for name in other_held if name not in held] + ["z"]
    found = []
    for name in names:
        goal, now = read_plainly(first, [(word, name)], place, held)
        other_goal, other_now = read_plainly(second, [(word, name)], other, other_held)
        pairs = tuple((now.index(held_name) + 1, other_now.index(held_name) + 1)
                      for held_name in now if held_name in other_now)
        found.append((name, (goal, other_goal, pairs)))
    return found


def alike_plainly(first, second):
    """All triples of two books whose places are alike under their matching, by leaving out the others."""
    left = {(one[0], other[0], told) for one in first.places for other in second.places if one[2] == other[2]
            for told in matchings_plainly(one[1], other[1])}
    goals = {triple: [goal for word in first.words for _, goal in behind_plainly(first, second, triple, word)]
             for triple in left}
    size = None
    while size != len(left):
        size = len(left)
        left = {triple for triple in left if all(goal in left for goal in goals[triple])}
    return left


def all_there_are(book):
    """How many triples of a book there are if each two places, and each one with itself, are taken once."""
    return sum(len(matchings_plainly(one[1], other[1]))
               for one, other in itertools.combinations_with_replacement(book.places, 2))


def idle_plainly(book, name, good):
    """The idle slots of a place, by all triples that are alike."""
    slots = range(1, book.slots(name) + 1)
    return tuple(slot for slot in slots if (name, name, tuple((one, one) for one in slots if one != slot)) in good)


def kept_plainly(book, name, good):
    idle = idle_plainly(book, name, good)
    return tuple(slot for slot in range(1, book.slots(name) + 1) if slot not in idle)


def rest_lengths(book):
    """How many reads a shortest rest behind which the answers are unlike has, for each triple that has one."""
    goals = {(one[0], other[0], told): None for one in book.places for other in book.places
             for told in matchings_plainly(one[1], other[1])}
    for triple in goals:
        goals[triple] = [goal for word in book.words for _, goal in behind_plainly(book, book, triple, word)]
    found = {triple: 0 for triple in goals if book.says_yes(triple[0]) != book.says_yes(triple[1])}
    length = 0
    while any(many == length for many in found.values()):
        for triple in goals:
            if triple not in found and any(found.get(goal) == length for goal in goals[triple]):
                found[triple] = length + 1
        length += 1
    return found


def reached_plainly(book):
    """The set of the places that rows reach, by the goals of the rules alone."""
    found, size = {book.start}, 0
    while size != len(found):
        size = len(found)
        found.update(rule[3] for rule in book.rules if rule[0] in found)
    return found

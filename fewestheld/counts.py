"""How many rows end at a place or have the answer yes, for stores of any number of names (points 45 to 50)."""

from fewestheld.errors import InvalidQuestion

MOST_READS = 40
MOST_NAMES = 1000000000


def place_polynomials(book, reads):
    """Return each place with the polynomial of the number of rows of so many reads that end there."""
    found = _counted(book, reads, _times_names_in_no_slot)
    return [(name, found[name]) for name in book.place_names]


def yes_polynomial(book, reads):
    """Return the polynomial of the number of rows of so many reads with the answer yes."""
    return _yes_sum(book, _counted(book, reads, _times_names_in_no_slot))


def yes_count(book, reads, names):
    """Return the number of rows of so many reads over so many names with the answer yes."""
    polynomial = yes_polynomial(book, reads)
    if not 0 <= names <= MOST_NAMES:
        raise InvalidQuestion(f"there are 0 to {MOST_NAMES} names")
    count = 0
    for coefficient in reversed(polynomial):
        count = count * names + coefficient
    return count


def kind_numbers(book, reads):
    """Return how many kinds of rows of so many reads have the answer yes, by the number of their names."""
    numbers = _yes_sum(book, _counted(book, reads, _kinds_with_a_name_in_no_slot))
    return numbers + [0] * (reads + 1 - len(numbers))


def kind_count(book, reads):
    """Return how many kinds of rows of so many reads have the answer yes."""
    return sum(kind_numbers(book, reads))


def _counted(book, reads, in_no_slot):
    """Return a dict with a list of numbers for each place, behind so many reads.

    The given function makes the list behind a read of a name in no slot from that of a place with so many slots.
    """
    if not 0 <= reads <= MOST_READS:
        raise InvalidQuestion(f"there are 0 to {MOST_READS} reads")
    found = {name: [] for name in book.place_names}
    found[book.start] = [1]
    for _ in range(reads):
        found = _counted_further(book, found, in_no_slot)
    return found


def _counted_further(book, found, in_no_slot):
    further = {name: [] for name in book.place_names}
    for place, _, case, goal, _ in book.rules:
        numbers = found[place] if case else in_no_slot(found[place], book.slots(place))
        further[goal] = _sum(further[goal], numbers)
    return further


def _times_names_in_no_slot(polynomial, slots):
    """Return the polynomial times the number of the names in no slot, which is N - slots."""
    return _sum([-slots * coefficient for coefficient in polynomial], _moved(polynomial))


def _kinds_with_a_name_in_no_slot(numbers, slots):
    """Return the numbers of kinds behind a read of a new name, or of one that was read and is in no slot."""
    return _sum([(names - slots) * number for names, number in enumerate(numbers)], _moved(numbers))


def _moved(numbers):
    return [0] + numbers if numbers else []


def _sum(one, other):
    shorter, longer = (one, other) if len(one) < len(other) else (other, one)
    return [a + b for a, b in zip(shorter, longer)] + longer[len(shorter):]


def _yes_sum(book, found):
    numbers = []
    for name in book.place_names:
        if book.says_yes(name):
            numbers = _sum(numbers, found[name])
    return numbers

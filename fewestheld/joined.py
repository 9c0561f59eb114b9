"""Books that are joined by what a word makes of their answers (points 59 to 61)."""

from fewestheld.books import MOST_PLACES, MOST_SLOTS, Book
from fewestheld.errors import InvalidQuestion, TooMany
from fewestheld.matchings import behind, check_same_words, kinds

JOINING_WORDS = ("and", "or", "but", "either")


def joined(first, second, word):
    """Return the book that says behind each row what the word makes of the answers of two books."""
    _check_joining_word(word)
    check_same_words(first, second)
    numbers = {(first.start, second.start, ()): 1}
    joints = list(numbers)
    rules = []
    at = 0
    while at < len(joints):
        joint = joints[at]
        joint_rules = _joint_rules(first, second, joint)
        for read, case, goal, moves in joint_rules:
            if goal not in numbers:
                _check_room(first, second, goal, len(joints))
                joints.append(goal)
                numbers[goal] = len(joints)
            rules.append((f"p{at + 1}", read, case, f"p{numbers[goal]}", moves))
        at += 1
    places = [_joined_place(first, second, one, number, word) for one, number in numbers.items()]
    return Book(words=first.words, places=places, start="p1", rules=rules)


def all_joined(books, word):
    """Return the book that joins the books of a list, from the first one on."""
    _check_joining_word(word)
    if not books:
        raise InvalidQuestion("there are no books")
    found = books[0]
    for book in books[1:]:
        found = joined(found, book, word)
    return found


def _check_joining_word(word):
    if word not in JOINING_WORDS:
        raise InvalidQuestion(f"no books are joined by {word}")


def _check_room(first, second, joint, many):
    if many >= MOST_PLACES:
        raise TooMany(MOST_PLACES)
    if len(_joint_slots(first, second, joint)) > MOST_SLOTS:
        raise TooMany(MOST_SLOTS)


def _joined_place(first, second, joint, number, word):
    yes = _joined_answer(word, first.says_yes(joint[0]), second.says_yes(joint[1]))
    return (f"p{number}", len(_joint_slots(first, second, joint)), yes)


def _joined_answer(word, yes, other_yes):
    if word == "and":
        return yes and other_yes
    if word == "or":
        return yes or other_yes
    if word == "but":
        return yes and not other_yes
    return yes != other_yes


def _joint_slots(first, second, joint):
    """Return the slots of a joint in order, each as the slots of both places that hold its name, or 0."""
    place, other, pairs = joint
    return kinds(first.slots(place), second.slots(other), pairs)[:-1]


def _joint_rules(first, second, joint):
    """Return the word, the case, the goal and the moves of each rule of a joint, in order."""
    slots = _joint_slots(first, second, joint)
    found = []
    for read in first.words:
        for case, kind in enumerate([(0, 0)] + slots):
            goal = behind(first, second, joint, read, kind)
            _, moves = first.rule(joint[0], read, kind[0])
            _, other_moves = second.rule(joint[1], read, kind[1])
            goal_slots = _joint_slots(first, second, goal)
            sources = [_joint_source(slots, case, pair, moves, other_moves) for pair in goal_slots]
            found.append((read, case, goal, tuple(sources)))
    return found


def _joint_source(slots, case, pair, moves, other_moves):
    """Return the source of a slot of the goal, told as the slots of both places of the goal."""
    if pair[0]:
        side, source = 0, moves[pair[0] - 1]
    else:
        side, source = 1, other_moves[pair[1] - 1]
    # What one book reads as a name in no slot can be in a slot of the other one.
    return [slot[side] for slot in slots].index(source) + 1 if source else case

import unittest

from fewestheld.alike import alike
from fewestheld.books import Book
from fewestheld.errors import InvalidQuestion, TooMany
from fewestheld.joined import all_joined, joined
from fewestheld.least import least
from tests.samples import (again, answer_plainly, crossed_book, doubled, idle_book, kind_rows, one_place, parts,
                           random_book, read_plainly, set_book, small_book, twice, two_words)

MAKES = {"and": lambda one, other: one and other, "or": lambda one, other: one or other,
         "but": lambda one, other: one and not other, "either": lambda one, other: one != other}


def couples():
    single = [small_book(), twice(), again(), again((0,)), idle_book(), set_book(), crossed_book(), one_place()]
    found = [(one, other) for one in single for other in single]
    found += [(random_book(seed), random_book(seed + 1)) for seed in range(60)]
    drawn = [random_book(seed, words=("u", "v")) for seed in range(31)]
    return found + list(zip(drawn, drawn[1:]))


def rows_of(book):
    return [row for many in range(6 if len(book.words) == 1 else 4) for row in kind_rows(book.words, many)]


def ring(many, tail=0):
    """A book without slots whose places follow one another in a ring, behind so many that do not come again."""
    places = [(f"r{at}", 0, at == 0) for at in range(tail + many)]
    rules = [(f"r{at}", "w", 0, f"r{at + 1 if at + 1 < tail + many else tail}", ()) for at in range(tail + many)]
    return Book(words=["w"], places=places, start="r0", rules=rules)


def keeper(slots, word):
    """A book with the words put and add that keeps the names that come with one of them, up to so many."""
    places = [(f"k{held}", held, held == slots) for held in range(slots + 1)]
    rules = []
    for held in range(slots + 1):
        every = tuple(range(1, held + 1))
        for told in ("put", "add"):
            taken = held < slots and told == word
            rules.append((f"k{held}", told, 0, f"k{held + taken}", every + (0,) if taken else every))
            rules += [(f"k{held}", told, case, f"k{held}", every) for case in every]
    return Book(words=["put", "add"], places=places, start="k0", rules=rules)


def joints_plainly(first, second):
    """The joints in the order of point 60, by names that are read, with the number of their slots and the rules."""
    start = (first.start, second.start, ())
    order, stands, rules = [start], {start: ((), ())}, []
    for joint in order:
        held, other_held = stands[joint]
        names = list(held) + [name for name in other_held if name not in held]
        for word in first.words:
            for case, name in enumerate(["new"] + names):
                place, now = read_plainly(first, [(word, name)], joint[0], held)
                other, other_now = read_plainly(second, [(word, name)], joint[1], other_held)
                pairs = tuple((now.index(own) + 1, other_now.index(own) + 1) for own in now if own in other_now)
                goal = (place, other, pairs)
                goal_names = list(now) + [own for own in other_now if own not in now]
                sources = tuple(0 if own == "new" else names.index(own) + 1 for own in goal_names)
                if goal not in stands:
                    renamed = {own: f"x{at}" for at, own in enumerate(goal_names)}
                    stands[goal] = (tuple(renamed[own] for own in now), tuple(renamed[own] for own in other_now))
                    order.append(goal)
                rules.append((f"p{order.index(joint) + 1}", word, case, f"p{order.index(goal) + 1}", sources))
    sizes = [len(set(held + other_held)) for held, other_held in (stands[joint] for joint in order)]
    return order, sizes, tuple(rules)


class TestJoined(unittest.TestCase):
    """Points 59 and 60."""

    def test_answers_behind_rows(self):
        for one, other in couples():
            for word, make in MAKES.items():
                told = joined(one, other, word)
                for row in rows_of(one):
                    self.assertIs(answer_plainly(told, row), make(answer_plainly(one, row), answer_plainly(other, row)))

    def test_joints_and_rules(self):
        for one, other in couples():
            joints, sizes, rules = joints_plainly(one, other)
            for word, make in MAKES.items():
                told = joined(one, other, word)
                self.assertEqual((told.words, told.start, told.rules), (one.words, "p1", rules))
                wanted = tuple((f"p{number}", slots, make(one.says_yes(joint[0]), other.says_yes(joint[1])))
                               for number, (joint, slots) in enumerate(zip(joints, sizes), 1))
                self.assertEqual(told.places, wanted)

    def test_the_slots_of_the_first_place_and_then_those_that_the_second_one_alone_holds(self):
        for one, other in couples():
            told = joined(one, other, "or")
            for row in rows_of(one):
                held, other_held = read_plainly(one, row)[1], read_plainly(other, row)[1]
                self.assertEqual(read_plainly(told, row)[1], held + tuple(n for n in other_held if n not in held))

    def test_joints_with_unlike_matchings_are_unlike_places(self):
        # Both books keep the last name that came with their own word.
        rules = [("s", "u", 0, "t", (0,)), ("s", "v", 0, "s", ()), ("t", "u", 0, "t", (0,)), ("t", "u", 1, "t", (1,)),
                 ("t", "v", 0, "t", (1,)), ("t", "v", 1, "t", (1,))]
        one = Book(words=["u", "v"], places=[("s", 0, False), ("t", 1, True)], start="s", rules=rules)
        exchanged = [(place, "v" if word == "u" else "u", *rest) for place, word, *rest in rules]
        other = Book(words=["u", "v"], places=[("s", 0, False), ("t", 1, True)], start="s", rules=exchanged)
        told = joined(one, other, "and")
        self.assertEqual(told.places, (("p1", 0, False), ("p2", 1, False), ("p3", 1, False), ("p4", 2, True),
                                       ("p5", 1, True)))
        self.assertEqual(told.rule("p2", "v", 1), ("p5", (1,)))
        self.assertEqual(told.rule("p2", "v", 0), ("p4", (1, 0)))
        self.assertEqual(told.rule("p4", "u", 2), ("p5", (2,)))
        self.assertEqual(told.rule("p4", "v", 1), ("p5", (1,)))
        self.assertEqual(told.rule("p5", "v", 0), ("p4", (1, 0)))

    def test_the_words_in_the_order_of_the_books(self):
        rules = [("s", "a", 0, "t", ()), ("s", "b", 0, "u", ())] + [(name, word, 0, name, ()) for name in "tu"
                                                                     for word in "ab"]
        places = [("s", 0, False), ("t", 0, True), ("u", 0, False)]
        for words, answers in (("ab", (False, True, False)), ("ba", (False, False, True))):
            book = Book(words=list(words), places=places, start="s", rules=rules)
            self.assertEqual(tuple(yes for _, _, yes in joined(book, book, "and").places), answers)

    def test_places_that_no_row_reaches_are_left_out(self):
        told = joined(crossed_book(), one_place(yes=True), "and")
        self.assertEqual(len(told.places), 5)

    def test_laws(self):
        for one, other in couples()[::7]:
            self.assertTrue(alike(joined(one, other, "but"), joined(one, other.turned(), "and")))
            self.assertTrue(alike(joined(one, other, "either"), joined(other, one, "either")))
            self.assertTrue(alike(joined(one, other, "or").turned(), joined(one.turned(), other.turned(), "and")))
            self.assertTrue(alike(joined(one, one, "and"), one))
        for seed in range(10):
            book = random_book(seed)
            self.assertEqual(len(least(joined(book, doubled(book, seed), "either")).places), 1)


class TestBounds(unittest.TestCase):
    """Point 61."""

    def test_other_words(self):
        for word in ("xor", "", "And", "not", "in", "and "):
            self.assertRaises(InvalidQuestion, joined, twice(), again(), word)
            for books in ([twice()], [twice(), again()], []):
                self.assertRaises(InvalidQuestion, all_joined, books, word)

    def test_unlike_words_of_the_books(self):
        turned = Book(words=("ask", "put"), places=two_words().places, start="zero", rules=two_words().rules)
        for one, other in ((twice(), one_place("out")), (twice(), two_words()), (two_words(), turned)):
            for word in MAKES:
                self.assertRaises(InvalidQuestion, joined, one, other, word)
                self.assertRaises(InvalidQuestion, joined, other, one, word)
                self.assertRaises(InvalidQuestion, all_joined, [one, other], word)
                self.assertRaises(InvalidQuestion, all_joined, [one, one, other], word)

    def test_more_than_60_joints(self):
        # Rings of p and q places have p times q joints where p and q have no common divisor.
        for one, other, many in ((6, 10, 30), (5, 12, 60), (60, 1, 60), (20, 30, 60), (60, 60, 60)):
            told = joined(ring(one), ring(other), "or")
            self.assertEqual(len(told.places), many)
            self.assertEqual(told.rules[-1], (f"p{many}", "w", 0, "p1", ()))
        self.assertEqual(len(joined(ring(5, tail=30), ring(6), "or").places), 60)
        for one, other in ((ring(5, tail=1), ring(12)), (ring(5), ring(12, tail=1)), (ring(31), ring(2)),
                           (ring(60), ring(59)), (ring(8), ring(9))):
            for word in MAKES:
                with self.assertRaises(TooMany) as caught:
                    joined(one, other, word)
                self.assertEqual(caught.exception.limit, 60)

    def test_more_than_6_slots(self):
        # The same names can come to both books, so matchings of all sizes are come to.
        for one, other in ((1, 1), (1, 2), (2, 1), (6, 0), (0, 6)):
            told = joined(keeper(one, "put"), keeper(other, "add"), "and")
            self.assertEqual(max(slots for _, slots, _ in told.places), one + other)
        places = [("s", 0, False)] + [(f"t{held}", held, False) for held in range(1, 7)]
        rules = []
        for at, (name, slots, _) in enumerate(places):
            every = tuple(range(1, slots + 1))
            goal = (f"t{at + 1}", every + (0,)) if at < 6 else (name, every)
            rules.append((name, "w", 0) + goal)
            rules += [(name, "w", case, name, every) for case in every]
        first = Book(words=["w"], places=places, start="s", rules=rules)
        self.assertEqual(max(slots for _, slots, _ in joined(first, first, "or").places), 6)
        # The last name that was read is held, too, so the joints behind a seventh name need a seventh slot.
        for one, other in ((first, twice()), (twice(), first)):
            one, other = (Book(words=["w"], places=book.places, start=book.start,
                               rules=[(rule[0], "w", *rule[2:]) for rule in book.rules]) for book in (one, other))
            for word in MAKES:
                with self.assertRaises(TooMany) as caught:
                    joined(one, other, word)
                self.assertEqual(caught.exception.limit, 6)

    def test_too_many_of_one_alone(self):
        with self.assertRaises(TooMany) as caught:
            joined(keeper(6, "put"), keeper(1, "add"), "or")
        self.assertIn(caught.exception.limit, (6, 60))

    def test_several_books(self):
        books = [small_book(), twice(), again(), idle_book()]
        for word, make in MAKES.items():
            two = joined(books[0], books[1], word)
            self.assertEqual(parts(all_joined(books[:2], word)), parts(two))
            three = joined(two, books[2], word)
            self.assertEqual(parts(all_joined(books[:3], word)), parts(three))
            told = all_joined(books[:3], word)
            for row in rows_of(books[0]):
                answers = [answer_plainly(book, row) for book in books[:3]]
                self.assertIs(answer_plainly(told, row), make(make(answers[0], answers[1]), answers[2]))
        self.assertEqual(parts(all_joined(books, "or")), parts(joined(all_joined(books[:3], "or"), books[3], "or")))

    def test_one_book_and_none(self):
        for word in MAKES:
            for book in (twice(), crossed_book(), idle_book()):
                self.assertEqual(parts(all_joined([book], word)), parts(book))
                self.assertEqual(parts(all_joined((book,), word)), parts(book))
            self.assertRaises(InvalidQuestion, all_joined, [], word)

    def test_too_many_of_several_books(self):
        with self.assertRaises(TooMany) as caught:
            all_joined([ring(5), ring(4), ring(3), ring(7)], "or")
        self.assertEqual(caught.exception.limit, 60)
        self.assertEqual(len(all_joined([ring(5), ring(4), ring(3)], "or").places), 60)

    def test_arguments_stay(self):
        books = [twice(), again()]
        before = [parts(book) for book in books]
        joined(*books, "and")
        all_joined(books, "or")
        self.assertEqual([parts(book) for book in books], before)
        self.assertEqual(len(books), 2)


class TestExamples(unittest.TestCase):
    def test_the_example_of_the_interface(self):
        first = Book(words=["w"], places=[("s", 0, False), ("t", 0, True)], start="s",
                     rules=[("s", "w", 0, "t", ()), ("t", "w", 0, "s", ())])
        both = joined(first, first.turned(), "or")
        self.assertEqual(both.places, (("p1", 0, True), ("p2", 0, True)))
        self.assertEqual(both.rules, (("p1", "w", 0, "p2", ()), ("p2", "w", 0, "p1", ())))

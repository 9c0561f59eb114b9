import unittest

from fewestheld.books import Book, is_name
from fewestheld.errors import FewestheldError, InvalidBook, InvalidQuestion, UnknownName
from tests.samples import parts, small_book, small_parts, two_words


class TestNames(unittest.TestCase):
    """Point 2."""

    def test_names(self):
        for text in ["a", "z", "a1", "in", "a0b9", "abcdefghijkl", "z12345678901"]:
            self.assertIs(is_name(text), True, text)

    def test_no_names(self):
        for text in ["", "abcdefghijklm", "1a", "0", "A", "aB", "In", "a-b", "a_b", "_", "a b", " a", "a ", " ",
                     "a\n", "\na", "\n", "a\t", "\u00e4", "a\u00e9", "a\u0661", "\u0430", "a\u00b2", "a:", "a."]:
            self.assertIs(is_name(text), False, text)


class TestKept(unittest.TestCase):
    """Points 3 to 6: what a book keeps."""

    def test_parts(self):
        book = small_book()
        self.assertEqual(book.words, ("in",))
        self.assertEqual(book.places, (("a", 0, True), ("b", 1, False)))
        self.assertEqual(book.start, "a")
        self.assertEqual(book.place_names, ("a", "b"))
        self.assertEqual(book.rules, (("a", "in", 0, "b", (0,)), ("b", "in", 0, "b", (1,)), ("b", "in", 1, "a", ())))

    def test_tuples_through_and_through(self):
        book = Book(**small_parts())
        for kept in (book.words, book.places, book.rules, book.place_names):
            self.assertIsInstance(kept, tuple)
        for kept in book.places + book.rules:
            self.assertIsInstance(kept, tuple)
        for rule in book.rules:
            self.assertIsInstance(rule[4], tuple)
        self.assertIsInstance(book.rule("a", "in", 0), tuple)
        self.assertIsInstance(book.rule("a", "in", 0)[1], tuple)

    def test_rules_in_any_order(self):
        book = two_words()
        keys = [rule[:3] for rule in book.rules]
        wanted = []
        for name, slots, _ in book.places:
            for word in ("put", "ask"):
                wanted.extend((name, word, case) for case in range(slots + 1))
        self.assertEqual(keys, wanted)
        turned_round = tuple((*rule[:4], list(rule[4])) for rule in reversed(book.rules))
        again = Book(words=list(book.words), places=list(book.places), start="zero", rules=turned_round)
        self.assertEqual(parts(again), parts(book))

    def test_orders_of_words_and_places_are_kept(self):
        given = small_parts()
        given["places"] = given["places"][::-1]
        self.assertEqual(Book(**given).places, (("b", 1, False), ("a", 0, True)))
        self.assertEqual([rule[0] for rule in Book(**given).rules], ["b", "b", "a"])
        rules = [("a", word, 0, "a", ()) for word in ("w", "v", "u")]
        book = Book(words=("v", "w", "u"), places=[("a", 0, True)], start="a", rules=rules)
        self.assertEqual(book.words, ("v", "w", "u"))
        self.assertEqual([rule[1] for rule in book.rules], ["v", "w", "u"])

    def test_later_changes_have_no_effect(self):
        given = small_parts()
        book = Book(**given)
        before = parts(book)
        given["words"].append("out")
        given["places"][0] = ("c", 0, False)
        given["rules"][0][4].append(0)
        given["rules"].pop()
        self.assertEqual(parts(book), before)

    def test_arguments_are_not_modified(self):
        given = small_parts()
        Book(**given)
        self.assertEqual(given, small_parts())

    def test_a_word_and_a_place_of_the_same_name(self):
        book = Book(words=["a"], places=[("a", 0, True)], start="a", rules=[("a", "a", 0, "a", [])])
        self.assertEqual(book.rules, (("a", "a", 0, "a", ()),))

    def test_most_words_places_and_slots(self):
        names = [f"p{number}" for number in range(60)]
        words = ["u", "v", "w"]
        rules = [(name, word, 0, name, []) for name in names for word in words]
        book = Book(words=words, places=[(name, 0, False) for name in names], start="p59", rules=rules)
        self.assertEqual(len(book.rules), 180)
        rules = [("s", "w", 0, "s", [])] + [("t", "w", case, "t", [1, 2, 3, 4, 5, 6]) for case in range(7)]
        book = Book(words=["w"], places=[("s", 0, False), ("t", 6, True)], start="s", rules=rules)
        self.assertEqual(book.slots("t"), 6)


class TestInvalidBooks(unittest.TestCase):
    """Points 2 to 6: what is no book."""

    def refuse(self, **changes):
        given = small_parts()
        given.update(changes)
        with self.assertRaises(InvalidBook):
            Book(**given)

    def refuse_rule(self, at, rule):
        rules = small_parts()["rules"]
        rules[at] = rule
        self.refuse(rules=rules)

    def test_words(self):
        rules = [(place, word, case, goal, moves) for word in ("u", "v", "w", "x")
                 for place, _, case, goal, moves in small_parts()["rules"]]
        self.refuse(words=[])
        self.refuse(words=[], rules=[])
        self.refuse(words=["u", "v", "w", "x"], rules=rules)
        self.refuse(words=["in", "in"])
        self.refuse(words=["in", "in"], rules=small_parts()["rules"] * 2)
        for name in ["", "In", "1n", "abcdefghijklm", "i n", "in\n"]:
            rules = [(rule[0], name) + rule[2:] for rule in small_parts()["rules"]]
            self.refuse(words=[name], rules=rules)

    def test_places(self):
        self.refuse(places=[])
        self.refuse(places=[], rules=[])
        names = [f"p{number}" for number in range(61)]
        self.refuse(places=[(name, 0, False) for name in names], start="p0",
                    rules=[(name, "in", 0, name, []) for name in names])
        self.refuse(places=[("a", 0, True), ("b", 1, False), ("a", 0, True)])
        self.refuse(places=[("a", 0, True), ("a", 1, True)])
        self.refuse(places=[("a", 0, True), ("b", 1, False), ("b", 1, False)])

    def test_parts_of_places(self):
        self.refuse(places=[("a", 0), ("b", 1, False)])
        self.refuse(places=[("a", 0, True), ("b", 1)])
        self.refuse(places=[("a", 0, True), ("b", 1, False, 0)])
        self.refuse(places=[("a", 0, True), ("b", 1, False), ()])

    def test_numbers_of_slots(self):
        self.refuse(places=[("a", 0, True), ("b", -1, False)])
        rules = [("a", "in", 0, "a", [])] + [("b", "in", case, "a", []) for case in range(8)]
        self.refuse(places=[("a", 0, True), ("b", 7, False)], rules=rules)
        self.refuse(places=[("a", 0, True), ("b", -1, False)], rules=[("a", "in", 0, "a", [])])

    def test_names_of_places(self):
        for name in ["", "A", "1", "abcdefghijklm", "a b", "a\n", "a_"]:
            self.refuse(places=[(name, 0, True)], start=name, rules=[(name, "in", 0, name, [])])

    def test_starts(self):
        self.refuse(start="c")
        self.refuse(start="in")
        self.refuse(start="")
        self.refuse(start="b")

    def test_rules_left_out_or_told_twice(self):
        rules = small_parts()["rules"]
        for at in range(3):
            self.refuse(rules=rules[:at] + rules[at + 1:])
            self.refuse(rules=rules + [rules[at]])
        self.refuse(rules=[])
        self.refuse(rules=rules + [("a", "in", 0, "a", [])])

    def test_parts_of_rules(self):
        self.refuse_rule(0, ("a", "in", 0, "b"))
        self.refuse_rule(0, ("a", "in", 0, "b", [0], 0))
        self.refuse_rule(0, ())

    def test_strange_names_in_rules(self):
        rules = small_parts()["rules"]
        self.refuse_rule(0, ("c", "in", 0, "b", [0]))
        self.refuse_rule(0, ("a", "on", 0, "b", [0]))
        self.refuse_rule(0, ("a", "in", 0, "c", [0]))
        self.refuse_rule(0, ("a", "in", 0, "in", [0]))
        self.refuse(rules=rules + [("c", "in", 0, "b", [0])])
        self.refuse(rules=rules + [("a", "on", 0, "b", [0])])
        self.refuse(rules=rules + [("", "", 0, "", [])])

    def test_cases_of_rules(self):
        rules = small_parts()["rules"]
        self.refuse(rules=rules + [("a", "in", 1, "a", [])])
        self.refuse(rules=rules + [("b", "in", 2, "a", [])])
        self.refuse(rules=rules + [("b", "in", -1, "a", [])])
        self.refuse_rule(1, ("b", "in", 2, "a", []))
        self.refuse_rule(1, ("b", "in", -1, "a", []))

    def test_sources_of_rules(self):
        self.refuse_rule(0, ("a", "in", 0, "b", []))
        self.refuse_rule(0, ("a", "in", 0, "b", [0, 0]))
        self.refuse_rule(0, ("a", "in", 0, "b", [1]))
        self.refuse_rule(0, ("a", "in", 0, "b", [-1]))
        self.refuse_rule(1, ("b", "in", 1, "a", [1]))
        self.refuse_rule(1, ("b", "in", 1, "b", [0]))
        self.refuse_rule(1, ("b", "in", 1, "b", [2]))
        self.refuse_rule(2, ("b", "in", 0, "b", [2]))
        self.refuse_rule(2, ("b", "in", 0, "b", [0, 1]))

    def test_a_source_twice(self):
        rules = [("s", "w", 0, "s", []), ("t", "w", 0, "t", [1, 2]), ("t", "w", 1, "t", [2, 1]),
                 ("t", "w", 2, "t", [1, 2])]
        places = [("s", 0, False), ("t", 2, False)]
        Book(words=["w"], places=places, start="s", rules=rules)
        for moves in ([1, 1], [2, 2], [0, 0], (1, 1)):
            with self.assertRaises(InvalidBook):
                Book(words=["w"], places=places, start="s", rules=rules[:1] + [("t", "w", 0, "t", moves)] + rules[2:])

    def test_an_invalid_book_is_a_fewestheld_error(self):
        with self.assertRaises(FewestheldError):
            Book(words=[], places=[], start="", rules=[])


class TestQuestions(unittest.TestCase):
    """Point 7."""

    def unknown(self, name, call, *arguments):
        with self.assertRaises(UnknownName) as caught:
            call(*arguments)
        self.assertEqual(caught.exception.name, name)

    def test_answers(self):
        book = small_book()
        self.assertIsNone(book.check_word("in"))
        self.assertEqual(book.place("b"), ("b", 1, False))
        self.assertEqual((book.slots("a"), book.slots("b")), (0, 1))
        self.assertIs(book.says_yes("a"), True)
        self.assertIs(book.says_yes("b"), False)
        self.assertEqual(book.rule("a", "in", 0), ("b", (0,)))
        self.assertEqual(book.rule("b", "in", 0), ("b", (1,)))
        self.assertEqual(book.rule("b", "in", 1), ("a", ()))

    def test_unknown_names(self):
        book = small_book()
        for name in ["c", "in", "", "B", "a b", "a\n"]:
            self.unknown(name, book.place, name)
            self.unknown(name, book.slots, name)
            self.unknown(name, book.says_yes, name)
            self.unknown(name, book.with_answer, name, True)
            self.unknown(name, book.with_start, name)
            self.unknown(name, book.renamed, name, "d")
            self.unknown(name, book.renamed, name, "")
            self.unknown(name, book.rule, name, "in", 0)
        for word in ["a", "", "out", "IN"]:
            self.unknown(word, book.check_word, word)
            self.unknown(word, book.rule, "a", word, 0)

    def test_first_strange_name_ahead_of_all_other_errors(self):
        book = small_book()
        self.unknown("c", book.rule, "c", "on", 9)
        self.unknown("on", book.rule, "a", "on", 9)
        self.unknown("in", book.rule, "in", "a", 0)

    def test_cases_that_a_place_does_not_have(self):
        book = small_book()
        for name, case in [("a", 1), ("a", -1), ("b", 2), ("b", -1), ("b", -2), ("b", 100)]:
            with self.assertRaises(InvalidQuestion):
                book.rule(name, "in", case)

    def test_with_answer(self):
        book = small_book()
        before = parts(book)
        changed = book.with_answer("b", True)
        self.assertEqual(changed.places, (("a", 0, True), ("b", 1, True)))
        self.assertEqual(changed.rules, book.rules)
        self.assertEqual(parts(book), before)
        same = book.with_answer("a", True)
        self.assertIsNot(same, book)
        self.assertEqual(parts(same), before)

    def test_with_start(self):
        book = two_words()
        rules = list(book.rules) + [("end", word, 0, "end", ()) for word in book.words]
        book = Book(words=book.words, places=list(book.places) + [("end", 0, True)], start="zero", rules=rules)
        before = parts(book)
        changed = book.with_start("end")
        self.assertEqual(parts(changed), before[:2] + ("end",) + before[3:])
        self.assertEqual(parts(book), before)
        with self.assertRaises(InvalidBook):
            book.with_start("two")

    def test_with_rule(self):
        book = small_book()
        before = parts(book)
        changed = book.with_rule(("b", "in", 1, "b", [1]))
        self.assertEqual(changed.rule("b", "in", 1), ("b", (1,)))
        self.assertEqual(changed.rules[:2], book.rules[:2])
        self.assertEqual(len(changed.rules), 3)
        self.assertEqual(parts(book), before)
        self.assertEqual(parts(book.with_rule(("b", "in", 1, "a", ()))), before)

    def test_with_rule_refuses(self):
        book = small_book()
        strange = [("c", "in", 0, "b", [0]), ("a", "on", 0, "b", [0]), ("a", "in", 0, "c", [0]),
                   ("a", "in", 1, "a", []), ("a", "in", -1, "a", []), ("a", "in", 0, "b", []),
                   ("a", "in", 0, "b", [1]), ("a", "in", 0, "b", [0, 0]), ("b", "in", 1, "b", [0]),
                   ("a", "in", 0, "b"), ("a", "in", 0, "b", [0], 1), ("", "in", 0, "b", [0])]
        for rule in strange:
            with self.assertRaises(InvalidBook):
                book.with_rule(rule)

    def test_with_rule_does_not_keep_the_list(self):
        moves = [0]
        book = small_book().with_rule(("a", "in", 0, "b", moves))
        moves.append(1)
        self.assertEqual(book.rule("a", "in", 0), ("b", (0,)))

    def test_turned(self):
        book = small_book()
        before = parts(book)
        self.assertEqual(book.turned().places, (("a", 0, False), ("b", 1, True)))
        self.assertEqual(book.turned().rules, book.rules)
        self.assertEqual(parts(book.turned().turned()), before)
        self.assertEqual(parts(book), before)

    def test_renamed(self):
        book = small_book()
        before = parts(book)
        changed = book.renamed("a", "in")
        self.assertEqual(changed.places, (("in", 0, True), ("b", 1, False)))
        self.assertEqual(changed.start, "in")
        self.assertEqual(changed.words, ("in",))
        self.assertEqual(changed.rules, (("in", "in", 0, "b", (0,)), ("b", "in", 0, "b", (1,)), ("b", "in", 1, "in", ())))
        self.assertEqual(changed.place_names, ("in", "b"))
        self.assertEqual(parts(book), before)
        self.assertEqual(book.renamed("b", "c").rules[0], ("a", "in", 0, "c", (0,)))
        self.assertEqual(parts(book.renamed("b", "b")), before)
        self.assertIsNot(book.renamed("b", "b"), book)

    def test_renamed_refuses(self):
        book = small_book()
        for other in ["b", "", "A", "1", "abcdefghijklm", "c\n"]:
            with self.assertRaises(InvalidBook):
                book.renamed("a", other)


class TestExamples(unittest.TestCase):
    def test_the_example_of_the_interface(self):
        rules = [("a", "in", 0, "b", [0]), ("b", "in", 1, "a", []), ("b", "in", 0, "b", [1])]
        book = Book(words=["in"], places=[("a", 0, True), ("b", 1, False)], start="a", rules=rules)
        self.assertEqual((book.rule("b", "in", 0), book.rules[2]), (("b", (1,)), ("b", "in", 1, "a", ())))
        self.assertIs(book.turned().says_yes("b"), True)
        with self.assertRaises(InvalidBook):
            book.with_start("b")
        with self.assertRaises(InvalidQuestion):
            book.rule("b", "in", 2)

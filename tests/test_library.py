import copy
import random
import unittest

from fewestheld.alike import difference
from fewestheld.books import Book
from fewestheld.errors import (FewestheldError, InvalidBook, InvalidQuestion, NameInUse, NothingToRedo, NothingToUndo,
                               TooMany, UnknownName)
from fewestheld.least import least
from fewestheld.library import Library, decide
from tests.samples import (again, answer_plainly, crossed_book, doubled, idle_book, kind_rows, one_place, parts,
                           random_book, set_book, small_book, twice, two_words, wide_book)


def told(library):
    """What a library has, as far as it can be asked for without a count."""
    books = [(name, parts(library.book(name))) for name in library.book_names()]
    return (books, [(name, library.question(name)) for name in library.question_names()])


def steps(library, move, error):
    """How many changes can be taken back, or made again, and what is there behind each; the library stays."""
    other, found = copy.deepcopy(library), []
    while True:
        try:
            move(other)
        except error:
            return found
        found.append(told(other))


def state(library):
    """All that the changes of a library can be seen by."""
    return (told(library), steps(library, Library.undo, NothingToUndo), steps(library, Library.redo, NothingToRedo),
            library.decided, library.kept)


def filled():
    """A library with three books, two questions, changes to take back and one to make again."""
    library = Library()
    library.set_book("t", twice())
    library.set_book("g", again())
    library.set_book("w", two_words())
    library.ask("same", "alike", ["t", "g"])
    library.ask("many", "places", ["w"])
    library.set_answer("w", "one", False)
    library.undo()
    return library


class Base(unittest.TestCase):
    def refuse(self, error, library, name, *arguments):
        """The call raises the error and changes nothing, neither by itself nor in change_all."""
        before = state(library)
        with self.assertRaises(error) as caught:
            getattr(library, name)(*arguments)
        self.assertIs(caught.exception.__class__, error)
        self.assertEqual(state(library), before)
        with self.assertRaises(error):
            library.change_all([("set_book", "fresh", twice()), (name,) + arguments])
        self.assertEqual(state(library), before)
        return getattr(caught.exception, "name", None)


class TestChanges(Base):
    """Points 65 and 66."""

    def test_a_new_library(self):
        library = Library()
        self.assertEqual((library.book_names(), library.question_names(), library.answers()), ([], [], []))
        self.assertEqual((library.decided, library.kept), (0, 0))

    def test_set_book(self):
        library = Library()
        self.assertIsNone(library.set_book("b", twice()))
        self.assertIsNone(library.set_book("a", again()))
        self.assertEqual(library.book_names(), ["a", "b"])
        self.assertIsInstance(library.book("b"), Book)
        self.assertEqual(parts(library.book("b")), parts(twice()))
        self.assertEqual(self.refuse(NameInUse, library, "set_book", "a", twice()), "a")
        self.assertEqual(self.refuse(NameInUse, library, "set_book", "b", library.book("b")), "b")

    def test_set_rule(self):
        library = Library()
        library.set_book("g", again())
        before = library.book("g")
        self.assertIsNone(library.set_rule("g", ("one", "in", 0, "one", (0,))))
        self.assertEqual(parts(library.book("g")), parts(again((0,))))
        self.assertEqual(parts(before), parts(again()))
        self.assertIsNone(library.set_rule("g", ["one", "in", 0, "one", [1]]))
        self.assertEqual(parts(library.book("g")), parts(again()))

    def test_errors_of_set_rule(self):
        library = filled()
        wrong = [("two", "in", 0, "one", (0,)), ("one", "on", 0, "one", (0,)), ("one", "in", 2, "one", (0,)),
                 ("one", "in", 0, "two", (0,)), ("one", "in", 1, "one", (0,)), ("one", "in", 0, "one", ()), ("one",)]
        for rule in wrong:
            self.refuse(InvalidBook, library, "set_rule", "g", rule)
            self.assertEqual(self.refuse(UnknownName, library, "set_rule", "same", rule), "same")
        self.assertEqual(self.refuse(UnknownName, library, "set_rule", "x", ("one", "in", 0, "one", (0,))), "x")

    def test_set_answer(self):
        library = Library()
        library.set_book("t", twice())
        self.assertIsNone(library.set_answer("t", "one", True))
        self.assertEqual(parts(library.book("t")), parts(twice().with_answer("one", True)))
        library.set_answer("t", "one", False)
        self.assertEqual(parts(library.book("t")), parts(twice()))

    def test_errors_of_set_answer(self):
        library = filled()
        self.assertEqual(self.refuse(UnknownName, library, "set_answer", "t", "two", True), "two")
        self.assertEqual(self.refuse(UnknownName, library, "set_answer", "t", "", True), "")
        self.assertEqual(self.refuse(UnknownName, library, "set_answer", "x", "two", True), "x")
        self.assertEqual(self.refuse(UnknownName, library, "set_answer", "same", "one", True), "same")

    def test_remove_book(self):
        library = filled()
        self.assertEqual(self.refuse(NameInUse, library, "remove_book", "t"), "t")
        self.assertEqual(self.refuse(NameInUse, library, "remove_book", "g"), "g")
        self.assertEqual(self.refuse(NameInUse, library, "remove_book", "w"), "w")
        self.assertEqual(self.refuse(UnknownName, library, "remove_book", "same"), "same")
        self.assertIsNone(library.drop("same"))
        self.assertIsNone(library.remove_book("t"))
        self.assertIsNone(library.remove_book("g"))
        self.assertEqual(self.refuse(NameInUse, library, "remove_book", "w"), "w")
        self.assertEqual(self.refuse(UnknownName, library, "remove_book", "t"), "t")
        self.assertEqual(library.book_names(), ["w"])
        library.set_book("t", again())
        self.assertEqual(parts(library.book("t")), parts(again()))

    def test_a_book_no_question_is_about_any_more(self):
        library = filled()
        library.ask("same", "ever", ["g"])
        self.assertEqual(self.refuse(NameInUse, library, "remove_book", "g"), "g")
        library.remove_book("t")
        self.assertEqual(library.book_names(), ["g", "w"])

    def test_ask(self):
        library = filled()
        self.assertIsNone(library.ask("ever", "ever", ["t"]))
        self.assertEqual(library.question_names(), ["ever", "many", "same"])
        self.assertEqual(library.question("ever"), ("ever", ("t",)))
        self.assertEqual(library.question("same"), ("alike", ("t", "g")))
        self.assertIsNone(library.ask("same", "alike", ("g", "g")))
        self.assertEqual(library.question("same"), ("alike", ("g", "g")))
        library.ask("same", "places", ["w"])
        self.assertEqual(library.question("same"), ("places", ("w",)))
        self.assertEqual(library.question_names(), ["ever", "many", "same"])

    def test_errors_of_ask(self):
        library = filled()
        for name in ("new", "same"):
            self.assertEqual(self.refuse(UnknownName, library, "ask", name, "alike", ["t", "x"]), "x")
            self.assertEqual(self.refuse(UnknownName, library, "ask", name, "alike", ["y", "x"]), "y")
            self.assertEqual(self.refuse(UnknownName, library, "ask", name, "alike", ["same", "t"]), "same")
            # A book that is not there comes ahead of the kind, the number and the words of the books.
            self.assertEqual(self.refuse(UnknownName, library, "ask", name, "never", ["x"]), "x")
            self.assertEqual(self.refuse(UnknownName, library, "ask", name, "ever", ["t", "x"]), "x")
            self.assertEqual(self.refuse(UnknownName, library, "ask", name, "alike", ["t", "w", "x"]), "x")
            for kind in ("never", "", "Alike", "within", "same"):
                self.refuse(InvalidQuestion, library, "ask", name, kind, ["t"])
                self.refuse(InvalidQuestion, library, "ask", name, kind, ["t", "g"])
            for kind, names in (("alike", []), ("alike", ["t"]), ("alike", ["t", "g", "t"]), ("ever", []),
                                ("ever", ["t", "t"]), ("places", []), ("places", ["t", "w"])):
                self.refuse(InvalidQuestion, library, "ask", name, kind, names)
            self.refuse(InvalidQuestion, library, "ask", name, "alike", ["t", "w"])

    def test_words_in_another_order(self):
        library = filled()
        book = two_words()
        library.set_book("v", Book(words=book.words[::-1], places=book.places, start=book.start, rules=book.rules))
        self.refuse(InvalidQuestion, library, "ask", "new", "alike", ["v", "w"])
        library.ask("new", "alike", ["v", "v"])

    def test_drop(self):
        library = filled()
        self.assertEqual(self.refuse(UnknownName, library, "drop", "t"), "t")
        self.assertEqual(self.refuse(UnknownName, library, "drop", "x"), "x")
        self.assertIsNone(library.drop("many"))
        self.assertEqual(library.question_names(), ["same"])
        self.assertEqual(self.refuse(UnknownName, library, "drop", "many"), "many")

    def test_a_book_and_a_question_under_one_name(self):
        library = Library()
        library.set_book("a", twice())
        library.ask("a", "ever", ["a"])
        self.assertEqual((library.book_names(), library.question_names()), (["a"], ["a"]))
        self.assertEqual(parts(library.book("a")), parts(twice()))
        self.assertEqual(library.question("a"), ("ever", ("a",)))
        library.drop("a")
        self.assertEqual((library.book_names(), library.question_names()), (["a"], []))
        library.undo()
        self.assertEqual(library.answer("a"), ("yes", 2))

    def test_unknown_names(self):
        library = filled()
        for call, names in ((library.book, ["same", "x", "", "A"]), (library.question, ["t", "x", ""]),
                            (library.answer, ["t", "x", ""])):
            for name in names:
                with self.assertRaises(UnknownName) as caught:
                    call(name)
                self.assertEqual(caught.exception.name, name)

    def test_lists_are_copied_and_new(self):
        library = filled()
        names = ["t", "g"]
        library.ask("q", "alike", names)
        names[0] = "w"
        self.assertEqual(library.question("q"), ("alike", ("t", "g")))
        library.book_names().clear()
        library.question_names().clear()
        library.answers().clear()
        self.assertEqual((library.book_names(), library.question_names()), (["g", "t", "w"], ["many", "q", "same"]))
        self.assertEqual(len(library.answers()), 3)
        changes = [("ask", "r", "ever", ["t"]), ["drop", "r"]]
        before = copy.deepcopy(changes)
        library.change_all(changes)
        self.assertEqual(changes, before)


class TestUndo(Base):
    """Point 67."""

    def test_all_kinds_of_changes(self):
        library, seen = Library(), [told(Library())]
        for name, *arguments in (("set_book", "b", again()), ("set_book", "a", twice()), ("ask", "q", "ever", ["a"]),
                                 ("set_rule", "b", ("one", "in", 0, "one", (0,))), ("set_answer", "b", "one", True),
                                 ("ask", "q", "places", ["b"]), ("remove_book", "a"), ("drop", "q"),
                                 ("remove_book", "b"), ("set_book", "a", again())):
            getattr(library, name)(*arguments)
            seen.append(told(library))
        for _ in range(3):
            for before in seen[-2::-1]:
                self.assertIsNone(library.undo())
                self.assertEqual(told(library), before)
            self.assertRaises(NothingToUndo, library.undo)
            self.assertEqual(told(library), seen[0])
            for behind in seen[1:]:
                self.assertIsNone(library.redo())
                self.assertEqual(told(library), behind)
            self.assertRaises(NothingToRedo, library.redo)
            self.assertEqual(told(library), seen[-1])

    def test_nothing_to_undo_and_to_redo(self):
        library = Library()
        before = state(library)
        self.assertRaises(NothingToUndo, library.undo)
        self.assertRaises(NothingToRedo, library.redo)
        self.assertEqual(state(library), before)
        library.set_book("a", twice())
        before = state(library)
        self.assertRaises(NothingToRedo, library.redo)
        self.assertEqual(state(library), before)
        library.undo()
        before = state(library)
        self.assertRaises(NothingToUndo, library.undo)
        self.assertEqual(state(library), before)
        library.redo()
        self.assertEqual(library.book_names(), ["a"])

    def test_a_change_behind_an_undo(self):
        library = filled()
        library.undo()
        library.undo()
        library.set_book("x", twice())
        self.assertRaises(NothingToRedo, library.redo)
        library.undo()
        self.assertEqual(library.question_names(), [])
        self.assertEqual(library.book_names(), ["g", "t", "w"])
        library.redo()
        self.assertEqual(library.book_names(), ["g", "t", "w", "x"])

    def test_a_change_that_changes_nothing_is_one(self):
        library = filled()
        library.set_answer("t", "one", False)
        self.assertRaises(NothingToRedo, library.redo)
        library.ask("same", "alike", ["t", "g"])
        many = len(steps(library, Library.undo, NothingToUndo))
        self.assertEqual(many, 7)

    def test_a_change_that_raises_leaves_what_can_be_made_again(self):
        library = filled()
        self.assertRaises(NameInUse, library.set_book, "t", twice())
        library.redo()
        self.assertFalse(library.book("w").says_yes("one"))

    def test_answers_are_no_changes(self):
        library = filled()
        library.answers()
        library.answer("same")
        library.redo()
        library.answers()
        library.undo()
        self.assertTrue(library.book("w").says_yes("one"))

    def test_change_all(self):
        library = filled()
        before = told(library)
        changes = [("set_book", "x", twice()), ("set_rule", "x", ("s", "in", 0, "s", ())), ("ask", "q", "ever", ["x"]),
                   ("set_answer", "x", "s", True), ("drop", "many"), ("remove_book", "w")]
        self.assertIsNone(library.change_all(changes))
        single, seen = filled(), [before]
        for name, *arguments in changes:
            getattr(single, name)(*arguments)
            seen.append(told(single))
        self.assertEqual(state(library), state(single))
        self.assertEqual(steps(library, Library.undo, NothingToUndo)[:6], seen[-2::-1])
        self.assertRaises(NothingToRedo, library.redo)
        library.undo()
        self.assertEqual(library.book_names(), ["g", "t", "w", "x"])

    def test_change_all_with_nothing(self):
        library = filled()
        before = state(library)
        self.assertIsNone(library.change_all([]))
        self.assertEqual(state(library), before)
        library.redo()

    def test_change_all_with_a_wrong_change(self):
        good = [("set_book", "x", twice()), ("ask", "q", "ever", ["x"]), ("set_answer", "t", "one", True),
                ("ask", "same", "alike", ["g", "g"]), ("remove_book", "t")]
        wrong = [(("set_book", "g", twice()), NameInUse), (("set_rule", "g", ("one",)), InvalidBook),
                 (("set_answer", "g", "x", True), UnknownName), (("remove_book", "g"), NameInUse),
                 (("remove_book", "z"), UnknownName), (("ask", "q", "never", ["g"]), InvalidQuestion),
                 (("ask", "q", "ever", ["z"]), UnknownName), (("drop", "z"), UnknownName)]
        for undone in range(2):
            for at in range(len(good) + 1):
                for change, error in wrong:
                    library = filled()
                    library.answers()
                    for _ in range(undone):
                        library.undo()
                    before = state(library)
                    self.assertRaises(error, library.change_all, good[:at] + [change] + good[at:])
                    self.assertEqual(state(library), before)

    def test_the_first_wrong_change_is_told(self):
        library = filled()
        with self.assertRaises(UnknownName) as caught:
            library.change_all([("drop", "same"), ("drop", "x"), ("drop", "y"), ("set_book", "t", twice())])
        self.assertEqual(caught.exception.name, "x")

    def test_changes_that_build_on_one_another(self):
        library = Library()
        self.assertRaises(UnknownName, library.change_all, [("ask", "q", "ever", ["b"]), ("set_book", "b", twice())])
        library.change_all([("set_book", "b", twice()), ("ask", "q", "ever", ["b"])])
        self.assertRaises(NameInUse, library.change_all, [("remove_book", "b"), ("drop", "q")])
        library.change_all([("drop", "q"), ("remove_book", "b")])
        self.assertEqual(told(library), told(Library()))

    def test_many_drawn_changes(self):
        for seed in range(25):
            draw = random.Random(seed)
            library, past, future = Library(), [], []
            for _ in range(60):
                before = told(library)
                change = self.drawn(draw)
                try:
                    getattr(library, change[0])(*change[1:])
                except FewestheldError as error:
                    self.assertEqual(told(library), before)
                    self.assertEqual(isinstance(error, NothingToUndo), change[0] == "undo")
                    self.assertEqual(isinstance(error, NothingToRedo), change[0] == "redo")
                    self.assertFalse({"undo": past, "redo": future}.get(change[0]))
                else:
                    if change[0] == "undo":
                        future.append(before)
                        self.assertEqual(told(library), past.pop())
                    elif change[0] == "redo":
                        past.append(before)
                        self.assertEqual(told(library), future.pop())
                    else:
                        past, future = past + [before], []

    def drawn(self, draw):
        book, other, question = draw.choice("abc"), draw.choice("abc"), draw.choice("qrs")
        return draw.choice([("set_book", book, random_book(draw.randrange(9))), ("remove_book", book),
                            ("set_answer", book, "p0", draw.random() < 0.5), ("ask", question, "alike", [book, other]),
                            ("set_rule", book, ("p0", "in", 0, "p0", ())), ("ask", question, "places", [book]),
                            ("drop", question), ("undo",), ("undo",), ("redo",)])


class TestDecide(unittest.TestCase):
    """Point 68."""

    def test_alike(self):
        self.assertEqual(decide("alike", [again(), doubled(again(), 3)]), ("alike",))
        self.assertEqual(decide("alike", [again(), again((0,))]), ("unlike", 3))
        self.assertEqual(decide("alike", (again(), again().turned())), ("unlike", 0))
        for seed in range(30):
            one, other = random_book(seed), random_book(seed + 1)
            row = difference(one, other)
            self.assertEqual(decide("alike", [one, other]), ("alike",) if row is None else ("unlike", len(row)))

    def test_ever(self):
        self.assertEqual(decide("ever", [again()]), ("yes", 2))
        self.assertEqual(decide("ever", [again().turned()]), ("yes", 0))
        self.assertEqual(decide("ever", [one_place()]), ("never",))
        self.assertEqual(decide("ever", [crossed_book()]), ("yes", 3))
        for seed in range(30):
            book = random_book(seed)
            told = [many for many in range(6) for row in kind_rows(("in",), many) if answer_plainly(book, row)]
            self.assertEqual(decide("ever", [book]), ("yes", told[0]) if told else ("never",))

    def test_places(self):
        self.assertEqual(decide("places", [one_place()]), ("places", 1))
        self.assertEqual(decide("places", [small_book()]), ("places", 2))
        self.assertEqual(decide("places", [doubled(set_book(), 1)]), ("places", 4))
        for seed in range(30):
            book = random_book(seed)
            self.assertEqual(decide("places", [book]), ("places", len(least(book).places)))

    def test_limits(self):
        one, other = again(), doubled(again(), 3)
        for limit in (0, 1, 2):
            self.assertEqual(decide("alike", [one, other], limit), ("many", limit))
            self.assertEqual(decide("alike", [one, other], limit=limit), ("many", limit))
        self.assertEqual(decide("alike", [one, one], 3), ("alike",))
        book = idle_book()
        for limit in range(12):
            try:
                wanted = ("places", len(least(book, limit=limit).places))
            except TooMany:
                wanted = ("many", limit)
            self.assertEqual(decide("places", [book], limit), wanted)
        self.assertEqual(decide("places", [book], 0), ("many", 0))
        self.assertEqual(decide("ever", [book], 0), ("yes", 3))
        self.assertEqual(decide("ever", [one_place()], 0), ("never",))

    def test_wrong_questions(self):
        for kind in ("never", "", "Ever", "within"):
            for books in ([], [twice()], [twice(), twice()]):
                self.assertRaises(InvalidQuestion, decide, kind, books)
        for kind, books in (("alike", []), ("alike", [twice()]), ("alike", [twice()] * 3), ("ever", []),
                            ("ever", [twice()] * 2), ("places", []), ("places", [twice()] * 2)):
            self.assertRaises(InvalidQuestion, decide, kind, books)
            self.assertRaises(InvalidQuestion, decide, kind, books, 0)
        self.assertRaises(InvalidQuestion, decide, "alike", [twice(), two_words()])

    def test_answers_of_a_library(self):
        books = {"again": again(), "last": again((0,)), "none": one_place(), "idle": idle_book(), "d": doubled(again(), 1)}
        library, wanted = Library(), []
        for name, book in books.items():
            library.set_book(name, book)
        for one, first in books.items():
            for kind in ("ever", "places"):
                library.ask(kind[0] + one, kind, [one])
                wanted.append((kind[0] + one, decide(kind, [first])))
            for other, second in books.items():
                library.ask(f"a{one}{other}", "alike", [one, other])
                wanted.append((f"a{one}{other}", decide("alike", [first, second])))
        self.assertEqual(library.answers(), sorted(wanted))
        for name, answer in wanted:
            self.assertEqual(library.answer(name), answer)

    def test_a_library_has_the_limit_20000(self):
        library = Library()
        library.set_book("many", wide_book())
        library.ask("q", "places", ["many"])
        self.assertEqual(library.answer("q"), ("many", 20000))
        self.assertEqual(decide("places", [wide_book()], 20000), ("many", 20000))


class TestKept(unittest.TestCase):
    """Point 69."""

    def counts(self, library):
        return (library.decided, library.kept)

    def test_asked_again(self):
        library = filled()
        self.assertEqual(self.counts(library), (0, 0))
        library.answer("same")
        self.assertEqual(self.counts(library), (1, 0))
        library.answer("same")
        self.assertEqual(self.counts(library), (1, 1))
        library.answers()
        self.assertEqual(self.counts(library), (2, 2))
        library.answers()
        self.assertEqual(self.counts(library), (2, 4))

    def test_the_same_question_under_two_names(self):
        library = filled()
        library.ask("other", "alike", ["t", "g"])
        library.answers()
        self.assertEqual(self.counts(library), (2, 1))
        library.drop("other")
        library.ask("third", "alike", ["t", "g"])
        library.answer("third")
        self.assertEqual(self.counts(library), (2, 2))

    def test_other_kinds_and_orders_are_other_questions(self):
        library = filled()
        library.answer("same")
        library.ask("same", "alike", ["g", "t"])
        library.answer("same")
        self.assertEqual(self.counts(library), (2, 0))
        for kind in ("ever", "places"):
            library.ask("same", kind, ["t"])
            library.answer("same")
        self.assertEqual(self.counts(library), (4, 0))
        library.ask("same", "alike", ["t", "g"])
        library.answer("same")
        self.assertEqual(self.counts(library), (4, 1))

    def test_two_entries_of_equal_books(self):
        library, book = Library(), twice()
        library.set_book("a", book)
        library.set_book("b", book)
        library.ask("a", "ever", ["a"])
        library.ask("b", "ever", ["b"])
        library.answers()
        self.assertEqual(self.counts(library), (2, 0))
        library.drop("a")
        library.remove_book("a")
        library.set_book("a", book)
        library.ask("a", "ever", ["a"])
        library.answer("a")
        self.assertEqual(self.counts(library), (3, 0))

    def test_a_book_that_stays_as_it_was(self):
        library = filled()
        library.answer("same")
        library.set_answer("t", "one", False)
        library.answer("same")
        self.assertEqual(self.counts(library), (2, 0))
        library.set_rule("g", ("one", "in", 0, "one", (1,)))
        library.answer("same")
        self.assertEqual(self.counts(library), (3, 0))
        library.set_answer("w", "one", True)
        library.answer("same")
        self.assertEqual(self.counts(library), (3, 1))

    def test_undo_and_redo_bring_back_entries(self):
        library = filled()
        library.answer("same")
        library.set_answer("t", "one", True)
        library.answer("same")
        self.assertEqual(self.counts(library), (2, 0))
        for kept in range(1, 5):
            (library.undo if kept % 2 else library.redo)()
            library.answer("same")
            self.assertEqual(self.counts(library), (2, kept))
        library.undo()
        library.set_answer("t", "one", True)
        library.answer("same")
        self.assertEqual(self.counts(library), (3, 4))

    def test_a_book_that_was_removed_and_comes_back(self):
        library = Library()
        library.set_book("a", twice())
        library.ask("q", "ever", ["a"])
        library.answer("q")
        library.drop("q")
        library.remove_book("a")
        library.undo()
        library.undo()
        library.answer("q")
        self.assertEqual(self.counts(library), (1, 1))
        for _ in range(2):
            library.undo()
        for _ in range(2):
            library.redo()
        library.answer("q")
        self.assertEqual(self.counts(library), (1, 2))

    def test_changes_that_were_not_made_bring_back_entries(self):
        library = filled()
        library.answer("same")
        self.assertRaises(UnknownName, library.change_all, [("set_answer", "t", "one", True), ("drop", "x")])
        library.answer("same")
        self.assertEqual(self.counts(library), (1, 1))
        library.redo()

    def test_strange_names_count_for_nothing(self):
        library = filled()
        for name in ("x", "t", ""):
            self.assertRaises(UnknownName, library.answer, name)
        self.assertEqual(self.counts(library), (0, 0))
        library.answer("same")
        self.assertRaises(UnknownName, library.answer, "x")
        self.assertEqual(self.counts(library), (1, 0))

    def test_each_library_counts_by_itself(self):
        one, other = filled(), filled()
        one.answers()
        other.answer("same")
        self.assertEqual((self.counts(one), self.counts(other)), ((2, 0), (1, 0)))

    def test_right_answers_behind_changes(self):
        library = filled()
        self.assertEqual(library.answer("same"), ("unlike", 3))
        library.set_answer("t", "one", True)
        self.assertEqual(library.answer("same"), ("unlike", 1))
        library.undo()
        self.assertEqual(library.answer("same"), ("unlike", 3))

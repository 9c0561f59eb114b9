"""The names, arguments and places of what the interface lists."""

import importlib
import inspect
import unittest

from fewestheld.books import Book
from fewestheld.feeds import Feed
from fewestheld.writers import Writer
from tests.samples import one_place

FUNCTIONS = {
    "books": ["is_name(text)"],
    "notation": ["format_book(book)", "parse_book(text)"],
    "runs": ["run(book, row)", "trace(book, row)", "cases(book, row)", "answers(book, row)", "says(book, row)",
             "names_of(row)", "kind_of(row)", "same_kind(one, other)", "renamed(row, table)",
             "kinds_of_rows(book, many, *, limit=2000)"],
    "matchings": ["matchings(one, other)", "is_matching(one, other, pairs)", "full(slots)", "turned(pairs)",
                  "composed(first, second)", "kinds(one, other, pairs)",
                  "behind(first, second, triple, word, kind)", "steps(first, second, triple)",
                  "agree(first, second, triple)", "triple_of(first, second, row)",
                  "reached(first, second, triple, *, limit=20000)", "is_closed(first, second, triples)"],
    "alike": ["alike(one, other, *, limit=20000)", "difference(one, other, *, limit=20000)",
              "closed_list(one, other, *, limit=20000)", "check_closed(one, other, triples)",
              "check_difference(one, other, row)"],
    "idle": ["reached_places(book)", "idle_slots(book, *, limit=20000)", "symmetries(book, place, *, limit=20000)"],
    "least": ["least(book, *, limit=20000)", "place_map(book, *, limit=20000)", "is_least(book, *, limit=20000)"],
    "evidence": ["evidence(book, *, limit=20000)", "check_evidence(book, told)"],
    "trials": ["trial(book, place, other, pairs, *, limit=20000)", "check_trial(book, place, other, pairs, told)"],
    "memory": ["remembered(book, row, *, limit=20000)", "shown(book, row, name, *, limit=20000)",
               "check_shown(book, row, name, told)", "most_remembered(book, *, limit=20000)",
               "is_idle(book, place, slot, *, limit=20000)"],
    "counts": ["place_polynomials(book, reads)", "yes_polynomial(book, reads)", "yes_count(book, reads, names)",
               "kind_numbers(book, reads)", "kind_count(book, reads)"],
    "reach": ["ever_reached(book)", "never_reached(book)", "first_row_to(book, name)",
              "first_answer(book, *, yes=True)", "fewest_names(book, *, yes=True)"],
    "joined": ["joined(first, second, word)", "all_joined(books, word)"],
    "feeds": ["first_parting(books, row)"],
    "library": ["decide(kind, books, limit=20000)"],
    "commands": ["split_words(line)", "row_of(words)", "is_command(words)"],
    "texts": ["row_text(row)", "parse_row(text)", "triples_text(triples)", "unlike_text(row)",
              "paper_text(one, other, *, limit=20000)", "parse_paper(text)", "check_text(one, other, text)"],
    "compared": ["first_row(one, other, answers, *, limit=20000)", "first_rows(one, other, *, limit=20000)",
                 "is_within(one, other, *, limit=20000)", "relation(one, other, *, limit=20000)",
                 "widest(books, *, limit=20000)"],
    "writers": ["written(writer, row)", "writing_list(first, second, *, limit=20000)",
                "is_writing_list(first, second, triples)", "writing_difference(first, second, *, limit=20000)",
                "unneeded_slots(writer, place, *, limit=20000)", "least_writer(writer, *, limit=20000)",
                "is_least_writer(writer, *, limit=20000)"],
    "logs": ["wrong_rows(book, log)", "is_right(book, log)", "clashes(log)", "fewest_changes(log)"],
}
ERRORS = {
    "FewestheldError": None, "InvalidBook": None, "InvalidRow": None, "InvalidQuestion": None,
    "NothingToUndo": None, "NothingToRedo": None, "UnknownName": "name", "InvalidNotation": "line",
    "InvalidPaper": "line", "TooMany": "limit", "NameInUse": "name",
}
METHODS = {
    ("evidence", "Evidence"): ["__init__(self, leads, apart, needed)"],
    ("trials", "Trial"): ["__init__(self, first, second, rest)"],
    ("books", "Book"): ["__init__(self, *, words, places, start, rules)", "check_word(self, word)",
                        "place(self, name)", "slots(self, name)", "says_yes(self, name)",
                        "rule(self, name, word, case)", "with_answer(self, name, yes)", "with_start(self, name)",
                        "with_rule(self, rule)", "turned(self)", "renamed(self, name, other)"],
    ("feeds", "Feed"): ["__init__(self, books)", "push(self, word, name)", "push_all(self, row)", "place(self, name)",
                        "held(self, name)", "answer(self, name)", "answers(self)", "split(self)",
                        "forgotten(self, name, row)", "copied(self)", "reset(self)"],
    ("library", "Library"): ["__init__(self)", "set_book(self, name, book)", "set_rule(self, name, rule)",
                             "set_answer(self, name, place, yes)", "remove_book(self, name)",
                             "ask(self, name, kind, names)", "drop(self, name)", "undo(self)", "redo(self)",
                             "change_all(self, changes)", "book_names(self)", "question_names(self)",
                             "book(self, name)", "question(self, name)", "answer(self, name)", "answers(self)"],
    ("writers", "Writer"): ["__init__(self, book, rows)", "pairs(self, place, word, case)"],
    ("session", "Session"): ["__init__(self)", "run(self, text)"],
}


def module(name):
    return importlib.import_module("fewestheld." + name)


class TestInterface(unittest.TestCase):
    def test_functions(self):
        for name, told in FUNCTIONS.items():
            for line in told:
                found = getattr(module(name), line.partition("(")[0])
                self.assertEqual(found.__name__ + str(inspect.signature(found)), line)
                self.assertEqual(found.__module__, "fewestheld." + name)

    def test_errors(self):
        for name, attribute in ERRORS.items():
            found = getattr(module("errors"), name)
            self.assertEqual(found.__module__, "fewestheld.errors")
            if attribute:
                self.assertEqual(vars(found(7))[attribute], 7)

    def test_base_of_the_errors(self):
        for name in ERRORS:
            self.assertTrue(issubclass(getattr(module("errors"), name), module("errors").FewestheldError))
        self.assertTrue(issubclass(module("errors").FewestheldError, ValueError))

    def test_the_package_itself_defines_nothing(self):
        with open(importlib.import_module("fewestheld").__file__, encoding="utf-8") as file:
            self.assertEqual(file.read(), "")

    def test_methods_stand_in_their_class(self):
        for (name, told), lines in METHODS.items():
            defined = getattr(module(name), told)
            self.assertEqual(defined.__module__, "fewestheld." + name)
            for line in lines:
                found = vars(defined)[line.partition("(")[0]]
                self.assertEqual(found.__name__ + str(inspect.signature(found)), line)

    def test_fields(self):
        self.assertEqual(vars(module("evidence").Evidence([], [], [])), {"leads": [], "apart": [], "needed": []})
        self.assertEqual(vars(module("trials").Trial([], [], [])), {"first": (), "second": (), "rest": ()})
        self.assertEqual(vars(Feed([("b", one_place())]))["count"], 0)
        self.assertIsInstance(vars(Writer(one_place(), []))["book"], Book)
        library = module("library").Library()
        self.assertEqual((vars(library)["decided"], vars(library)["kept"]), (0, 0))
        self.assertIsInstance(vars(module("session").Session())["library"], module("library").Library)

    def test_properties_stand_in_their_class(self):
        for made, names in ((one_place(), ("rules", "place_names")), (Feed([("b", one_place())]), ("names",)),
                            (Writer(one_place(), []), ("rows",))):
            for name in names:
                self.assertIsInstance(vars(made.__class__)[name], property)
                with self.assertRaises(AttributeError):
                    setattr(made, name, ())


if __name__ == "__main__":
    unittest.main()

import unittest

from fewestheld.books import Book
from fewestheld.library import Library
from fewestheld.notation import format_book
from fewestheld.session import Session
from tests.samples import again, crossed_book, idle_book, one_place, parts, set_book, twice, two_words, wide_book


def block(name, book):
    return f"book {name}\n{format_book(book)}\nend\n"


def opened(**books):
    """A session with some books."""
    session = Session()
    for name, book in books.items():
        session.run(block(name, book))
    return session


class TestLines(unittest.TestCase):
    """Points 70 and 74."""

    def test_a_new_session(self):
        session = Session()
        self.assertIsInstance(session.library, Library)
        self.assertEqual(session.run("books\nquestions\nanswers"), ["books:", "questions:"])
        self.assertEqual(session.run(""), [])
        self.assertEqual(session.run("   \n\n  "), [])

    def test_numbers_of_lines(self):
        session = Session()
        self.assertEqual(session.run("\n\nhelp\n   \nhelp"), ["line 3: invalid command", "line 5: invalid command"])
        self.assertEqual(session.run("help"), ["line 1: invalid command"])
        self.assertEqual(session.run("books\nundo\n\nredo\n"),
                         ["books:", "line 2: nothing to undo", "line 4: nothing to redo"])

    def test_spaces(self):
        session = opened(b=twice())
        self.assertEqual(session.run("   read    b  in:x   in:x  \n  books "), ["yes yes x", "books: b"])
        self.assertEqual(session.run("books\t\n\tbooks\nbooks\r"), [f"line {at}: invalid command" for at in (1, 2, 3)])

    def test_invalid_commands_do_nothing(self):
        session = opened(b=twice())
        lines = ["end", "book", "book B", "book b c", "set b one maybe", "set b one", "remove", "remove b b",
                 "ask q within b b", "ask q alike b", "ask q ever b b", "ask q places", "drop", "answer", "answers q",
                 "print", "read", "read b in", "read b in:x:y", "read b in:X", "books b", "questions q", "undo 1",
                 "redo 1", "Books", "words in", "set b one yes yes"]
        told = session.run("\n".join(lines))
        self.assertEqual(told, [f"line {at}: invalid command" for at in range(1, len(lines) + 1)])
        self.assertEqual(session.run("books\nquestions\nundo\nbooks"), ["books: b", "questions:", "ok", "books:"])

    def test_commands_are_decided_by_the_words_alone(self):
        # All of these are commands, though nothing has such a name.
        told = Session().run("answer q\nprint b\nread b w:x\nset b p no\nremove b\nask q alike b c\ndrop q")
        self.assertEqual(told, [f"line {at}: unknown name {name}" for at, name in enumerate("qbbbbbq", 1)])

    def test_the_lines_behind_an_error(self):
        session = opened(b=twice())
        told = session.run("ask q ever b\nremove b\nset b two yes\nset b one yes\nanswer q\nhelp\nread b in:x")
        self.assertEqual(told, ["ok", "line 2: name in use b", "line 3: unknown name two", "ok", "q: yes 1",
                                "line 6: invalid command", "yes one x"])


class TestBlocks(unittest.TestCase):
    """Point 72."""

    def test_a_block(self):
        session = Session()
        self.assertEqual(session.run(block("b", two_words())), ["ok", "ok"])
        self.assertEqual(parts(session.library.book("b")), parts(two_words()))
        self.assertEqual(session.library.book_names(), ["b"])

    def test_the_example_of_the_interface(self):
        text = ("book b\nwords w\nstart s\nplace s 0 no\nplace t 1 yes\nrule s w 0 t 0\nrule t w 0 t 1\nrule t w 1 s\n"
                "end\nread b w:x w:y\nask q places b\nanswers")
        self.assertEqual(Session().run(text), ["ok", "ok", "yes t x", "ok", "q: places 2"])

    def test_over_several_calls(self):
        session, lines = Session(), block("b", twice()).split("\n")
        self.assertEqual(session.run(lines[0]), ["ok"])
        for line in lines[1:-2]:
            self.assertEqual(session.run(line), [])
            self.assertEqual(session.library.book_names(), [])
        self.assertEqual(session.run("\n  end \nbooks"), ["ok", "books: b"])
        self.assertEqual(parts(session.library.book("b")), parts(twice()))

    def test_spaces_and_lines_without_words(self):
        session = Session()
        text = "\n\n  ".join(format_book(twice()).replace(" ", "   ").split("\n"))
        self.assertEqual(session.run("book b\n \n   " + text + "   \n\nend"), ["ok", "ok"])
        self.assertEqual(parts(session.library.book("b")), parts(twice()))

    def test_lines_that_look_like_commands(self):
        session = opened(a=twice())
        self.assertEqual(session.run("book b\nbooks\nundo\nhelp\nbook c\nremove a\nend\nbooks"),
                         ["ok", "line 7: invalid notation 1", "books: a"])
        self.assertEqual(session.run("book b\nend end\nend b\nEND\nend"), ["ok", "line 5: invalid notation 1"])
        # What was in the block is not done, and nothing of it is left in the next one.
        self.assertEqual(session.run(block("b", again()) + "books"), ["ok", "ok", "books: a b"])

    def test_invalid_notation(self):
        session = Session()
        self.assertEqual(session.run("book b\nend"), ["ok", "line 2: invalid notation 1"])
        self.assertEqual(session.run("\nbook b\n\nwords in\n\nend"), ["ok", "line 6: invalid notation 2"])
        # The number is that among the lines that were taken.
        self.assertEqual(session.run("book b\n\nwords in\n\nstart a\n \nplace a\n\nend"),
                         ["ok", "line 9: invalid notation 3"])
        self.assertEqual(session.run("book b\nwords in\nstart a"), ["ok"])
        self.assertEqual(session.run("place a 0 yes\nrule a in 0 a\nplace c 0 yes\n\nend\nbooks"),
                         ["line 5: invalid notation 5", "books:"])
        self.assertEqual(session.run("book b\nwords in\t\nend"), ["ok", "line 3: invalid notation 1"])

    def test_invalid_book(self):
        session = Session()
        self.assertEqual(session.run("book b\nwords in\nstart a\nend\nbooks"), ["ok", "line 4: invalid book", "books:"])
        self.assertEqual(session.run("undo"), ["line 1: nothing to undo"])

    def test_a_name_in_use(self):
        session = opened(b=twice())
        self.assertEqual(session.run(block("b", again())), ["ok", "line 11: name in use b"])
        self.assertEqual(parts(session.library.book("b")), parts(twice()))
        # The lines are parsed first.
        self.assertEqual(session.run("book b\nwords\nend"), ["ok", "line 3: invalid notation 2"])
        self.assertEqual(session.run("book b\nwords in\nstart a\nend"), ["ok", "line 4: invalid book"])

    def test_the_block_is_closed_behind_an_error(self):
        session = Session()
        for text in ("book b\nend", "book b\nwords in\nstart a\nend"):
            self.assertEqual(session.run(text + "\nbooks\nend")[2:],
                             ["books:", f"line {text.count(chr(10)) + 3}: invalid command"])

    def test_setting_a_book_is_a_change(self):
        session = opened(b=twice())
        self.assertEqual(session.run("undo\nbooks\nredo\nbooks\nundo\nundo"),
                         ["ok", "books:", "ok", "books: b", "ok", "line 6: nothing to undo"])

    def test_names_of_commands_as_names_of_books(self):
        session = opened(end=twice(), book=again())
        self.assertEqual(session.run("books\nread end\nask undo alike end book\nanswer undo"),
                         ["books: book end", "no s", "ok", "undo: unlike 3"])


class TestCommands(unittest.TestCase):
    """Points 73 and 74."""

    def test_set(self):
        session = opened(b=twice())
        self.assertEqual(session.run("set b one yes\nread b in:x\nset b one no\nread b in:x"),
                         ["ok", "yes one x", "ok", "no one x"])
        self.assertEqual(session.run("set c one yes\nset b two no\nset c two no\nset in one yes"),
                         ["line 1: unknown name c", "line 2: unknown name two", "line 3: unknown name c",
                          "line 4: unknown name in"])

    def test_remove(self):
        session = opened(b=twice(), a=again())
        self.assertEqual(session.run("ask q ever b\nremove b\nremove a\nbooks\ndrop q\nremove b\nbooks\nremove b"),
                         ["ok", "line 2: name in use b", "ok", "books: b", "ok", "ok", "books:",
                          "line 8: unknown name b"])

    def test_ask_and_drop(self):
        session = opened(b=twice(), a=again(), w=two_words())
        self.assertEqual(session.run("ask z alike a b\nask y ever a\nask x places w\nquestions"),
                         ["ok", "ok", "ok", "questions: x y z"])
        self.assertEqual(session.library.question("z"), ("alike", ("a", "b")))
        self.assertEqual(session.library.question("y"), ("ever", ("a",)))
        self.assertEqual(session.library.question("x"), ("places", ("w",)))
        self.assertEqual(session.run("ask z alike a w\nask z alike w v\nask z ever z\nask z ever b\nanswer z"),
                         ["line 1: invalid question", "line 2: unknown name v", "line 3: unknown name z", "ok",
                          "z: yes 2"])
        self.assertEqual(session.run("drop z\ndrop z\nquestions\ndrop a"),
                         ["ok", "line 2: unknown name z", "questions: x y", "line 4: unknown name a"])

    def test_words_in_another_order(self):
        book = two_words()
        other = Book(words=book.words[::-1], places=book.places, start=book.start, rules=book.rules)
        self.assertEqual(opened(b=book, c=other).run("ask q alike b c\nquestions"),
                         ["line 1: invalid question", "questions:"])

    def test_each_form_of_an_answer(self):
        session = opened(b=twice(), a=again(), n=one_place(), s=set_book())
        told = session.run("ask e alike b b\nask d alike b a\nask c ever b\nask f ever n\nask g places s\nanswer e\n"
                           "answer d\nanswer c\nanswer f\nanswer g")
        self.assertEqual(told, ["ok"] * 5 + ["e: alike", "d: unlike 3", "c: yes 2", "f: never", "g: places 4"])
        self.assertEqual(session.run("answers"), ["c: yes 2", "d: unlike 3", "e: alike", "f: never", "g: places 4"])
        self.assertEqual(session.run("answer a\nanswer x"), ["line 1: unknown name a", "line 2: unknown name x"])

    def test_an_answer_that_is_too_many(self):
        session = opened(w=wide_book())
        self.assertEqual(session.run("ask q places w\nanswer q\nanswers"), ["ok", "q: many 20000", "q: many 20000"])
        self.assertEqual((session.library.decided, session.library.kept), (1, 1))

    def test_answers_ask_each_question_once(self):
        session = opened(b=twice(), a=again())
        session.run("ask q ever b\nask p ever a\nask o ever b\nanswers")
        self.assertEqual((session.library.decided, session.library.kept), (2, 1))
        session.run("answer q")
        self.assertEqual((session.library.decided, session.library.kept), (2, 2))

    def test_print(self):
        for book in (twice(), two_words(), crossed_book(), one_place()):
            session = opened(b=book)
            self.assertEqual(session.run("print b"), format_book(book).split("\n"))
        self.assertEqual(session.run("print q\nprint b")[:2], ["line 1: unknown name q", "words in"])

    def test_what_is_printed_can_be_read(self):
        session = opened(b=two_words())
        session.run("book c\n" + "\n".join(session.run("print b")) + "\nend")
        self.assertEqual(parts(session.library.book("c")), parts(two_words()))

    def test_read(self):
        session = opened(i=idle_book(), w=two_words())
        self.assertEqual(session.run("read i\nread i in:x\nread i in:x in:y\nread i in:x in:y in:x"),
                         ["no start", "no one x", "no two y x", "yes end x"])
        self.assertEqual(session.run("read w put:x put:y put:y ask:x\nread w ask:q"), ["yes one y", "no zero"])

    def test_errors_of_read(self):
        session = opened(b=twice())
        self.assertEqual(session.run("read c\nread c on:x\nread b in:x on:x off:y\nread b in:x"),
                         ["line 1: unknown name c", "line 2: unknown name c", "line 3: unknown name on", "no one x"])

    def test_books_and_questions(self):
        session = opened(b=twice(), ab=again(), a=one_place(), z9=twice())
        self.assertEqual(session.run("books"), ["books: a ab b z9"])
        session.run("ask b ever b\nask aa ever b")
        self.assertEqual(session.run("questions"), ["questions: aa b"])

    def test_undo_and_redo(self):
        session = opened(b=twice())
        self.assertEqual(session.run("set b one yes\nask q ever b\nundo\nundo\nread b in:x\nredo\nread b in:x\nredo\n"
                                     "redo\nanswers"),
                         ["ok", "ok", "ok", "ok", "no one x", "ok", "yes one x", "ok", "line 9: nothing to redo",
                          "q: yes 1"])
        self.assertEqual(session.run("undo\nundo\nundo\nundo\nbooks"),
                         ["ok", "ok", "ok", "line 4: nothing to undo", "books:"])

    def test_the_library_can_be_used_beside_the_lines(self):
        session = Session()
        session.library.set_book("b", twice())
        self.assertEqual(session.run("books\nread b in:x in:x\nundo\nbooks"), ["books: b", "yes yes x", "ok", "books:"])

    def test_two_sessions(self):
        one, other = opened(b=twice()), Session()
        one.run("book c")
        self.assertEqual(other.run("books"), ["books:"])
        self.assertEqual(one.run("books"), [])

    def test_lists_are_new_ones(self):
        session = opened(b=twice())
        session.run("print b").clear()
        session.run("books").append("x")
        self.assertEqual(session.run("books"), ["books: b"])

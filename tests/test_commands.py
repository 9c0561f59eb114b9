import unittest

from fewestheld.commands import is_command, row_of, split_words

COMMANDS = ["book b", "set b p yes", "set b p no", "remove b", "ask q alike b c", "ask q ever b", "ask q places b",
            "drop q", "answer q", "answers", "print b", "read b", "read b w:x", "read b w:x v:y w:x", "books",
            "questions", "undo", "redo"]
# The places of names in each of the commands above.
NAMES = [[1], [1, 2], [1, 2], [1], [1, 3, 4], [1, 3], [1, 3], [1], [1], [], [1], [1], [1], [1], [], [], [], []]
NO_NAMES = ["B", "1", "", "abcdefghijklm", "b-c", "b:c", "b\t", "NAME", "READ"]


class TestWords(unittest.TestCase):
    """Point 70."""

    def test_spaces(self):
        self.assertEqual(split_words("read b w:x"), ["read", "b", "w:x"])
        self.assertEqual(split_words("  read   b  w:x    "), ["read", "b", "w:x"])
        for line in ("", " ", "     "):
            self.assertEqual(split_words(line), [])
        self.assertEqual(split_words("end"), ["end"])

    def test_only_spaces_separate(self):
        self.assertEqual(split_words("a\tb \t c\r"), ["a\tb", "\t", "c\r"])
        self.assertEqual(split_words("a\u00a0b"), ["a\u00a0b"])

    def test_rows(self):
        self.assertEqual(row_of([]), [])
        self.assertEqual(row_of(["w:x"]), [("w", "x")])
        self.assertEqual(row_of(["w:x", "v:y2", "w:w"]), [("w", "x"), ("v", "y2"), ("w", "w")])
        self.assertEqual(row_of(["abcdefghijkl:abcdefghijkl"]), [("abcdefghijkl", "abcdefghijkl")])
        self.assertEqual(row_of(("w:x",)), [("w", "x")])

    def test_no_rows(self):
        wrong = ["w", "", ":", "w:", ":x", "w::x", "w:x:y", "w:x:", ":w:x", "W:x", "w:X", "1:x", "w:1", "w: x", "w;x",
                 "abcdefghijklm:x", "w:abcdefghijklm", "w:x\n", "w\t:x"]
        for word in wrong:
            self.assertIsNone(row_of([word]), word)
            self.assertIsNone(row_of(["w:x", word]), word)
            self.assertIsNone(row_of([word, "w:x"]), word)
            self.assertIsNone(row_of(["w:x", word, "w:x"]), word)

    def test_arguments_stay(self):
        words = ["read", "b", "w:x", "v:y"]
        is_command(words)
        row_of(words[2:]).clear()
        self.assertEqual(words, ["read", "b", "w:x", "v:y"])


class TestCommands(unittest.TestCase):
    """Point 71."""

    def test_each_form(self):
        for line in COMMANDS:
            self.assertIs(is_command(line.split(" ")), True, line)

    def test_words_of_commands_as_names(self):
        for line in ("book book", "set yes no yes", "set no yes no", "ask alike alike ever places", "read read read:no",
                     "drop undo", "print books", "answer answers", "remove end", "ask ever ever ever"):
            self.assertIs(is_command(line.split(" ")), True, line)

    def test_a_word_too_many(self):
        for line in COMMANDS:
            for word in ("b", "yes", "B", ""):
                self.assertIs(is_command(line.split(" ") + [word]), False, line)
            if not line.startswith("read"):
                self.assertIs(is_command(line.split(" ") + ["w:x"]), False, line)

    def test_a_word_too_few(self):
        for line in COMMANDS:
            words = line.split(" ")
            for at in range(len(words)):
                left = words[:at] + words[at + 1:]
                if left and not (line.startswith("read b w:x") and at > 1):
                    self.assertIs(is_command(left), False, left)
        self.assertIs(is_command(["read"]), False)

    def test_what_is_no_name(self):
        for line, places in zip(COMMANDS, NAMES):
            for at in places:
                for word in NO_NAMES:
                    words = line.split(" ")
                    words[at] = word
                    self.assertIs(is_command(words), False, words)

    def test_other_words(self):
        for line, places in zip(COMMANDS, NAMES):
            words = line.split(" ")
            for at in range(len(words)):
                if at in places or (words[0] == "read" and at > 1):
                    continue
                for word in ("maybe", words[at].upper(), words[at] + "s", words[at][:-1], "b"):
                    changed = words[:at] + [word] + words[at + 1:]
                    self.assertIs(is_command(changed), False, changed)

    def test_exchanged_words(self):
        for line in ("b book", "set b yes p", "set yes b", "yes set b p", "ask alike q b c", "ask q b alike c",
                     "ask q ever b c", "ask q places b c", "ask q alike b", "ask q b ever", "w:x read b", "read w:x b",
                     "read b c", "read b w x", "q drop"):
            self.assertIs(is_command(line.split(" ")), False, line)

    def test_reads(self):
        for word in ("w", "w:", ":x", "w:x:y", "W:x", "w:1"):
            self.assertIs(is_command(["read", "b", word]), False)
            self.assertIs(is_command(["read", "b", "w:x", word]), False)
        self.assertIs(is_command(["read", "b"] + ["w:x"] * 100), True)

    def test_no_commands(self):
        for line in ("end", "words w", "start s", "place s 0 no", "rule s w 0 s", "b", "help", "quit", "ok"):
            self.assertIs(is_command(line.split(" ")), False, line)

import unittest

from fewestheld import errors


class TestErrors(unittest.TestCase):
    def test_every_error_is_a_fewestheld_error_and_a_value_error(self):
        names = ["InvalidBook", "InvalidRow", "InvalidQuestion", "NothingToUndo", "NothingToRedo"]
        for name in names:
            made = getattr(errors, name)("why")
            self.assertIsInstance(made, errors.FewestheldError, name)
            self.assertIsInstance(made, ValueError, name)
        self.assertTrue(issubclass(errors.FewestheldError, ValueError))

    def test_errors_with_an_attribute(self):
        told = [("UnknownName", "name", "in"), ("InvalidNotation", "line", 7), ("InvalidPaper", "line", 1),
                ("TooMany", "limit", 0), ("NameInUse", "name", "")]
        for name, attribute, value in told:
            made = getattr(errors, name)(value)
            self.assertEqual(getattr(made, attribute), value, name)
            self.assertIsInstance(made, errors.FewestheldError, name)
            self.assertIsInstance(made, ValueError, name)

    def test_no_error_is_another_one(self):
        names = ["InvalidBook", "InvalidRow", "InvalidQuestion", "NothingToUndo", "NothingToRedo", "UnknownName",
                 "InvalidNotation", "InvalidPaper", "TooMany", "NameInUse"]
        for one in names:
            for other in names:
                self.assertEqual(issubclass(getattr(errors, one), getattr(errors, other)), one == other)

"""The errors that the program raises."""


class FewestheldError(ValueError):
    """The base class of all errors that the program raises."""


class InvalidBook(FewestheldError):
    """A book breaks a rule of points 2 to 5."""


class InvalidRow(FewestheldError):
    """A row has something that is no name."""


class InvalidQuestion(FewestheldError):
    """A question asks for something that there is not."""


class NothingToUndo(FewestheldError):
    """No change is there to be taken back."""


class NothingToRedo(FewestheldError):
    """No change is there to be made again."""


class UnknownName(FewestheldError):
    """Nothing has this name."""

    def __init__(self, name):
        super().__init__(f"unknown name {name}")
        self.name = name


class InvalidNotation(FewestheldError):
    """A line of a text cannot stand where it stands."""

    def __init__(self, line):
        super().__init__(f"invalid notation in line {line}")
        self.line = line


class InvalidPaper(FewestheldError):
    """A line of a paper cannot stand where it stands."""

    def __init__(self, line):
        super().__init__(f"invalid paper in line {line}")
        self.line = line


class TooMany(FewestheldError):
    """There are more than the limit."""

    def __init__(self, limit):
        super().__init__(f"more than {limit}")
        self.limit = limit


class NameInUse(FewestheldError):
    """Something else has this name, or needs it."""

    def __init__(self, name):
        super().__init__(f"name in use {name}")
        self.name = name

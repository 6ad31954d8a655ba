"""The errors of the package; each keeps what it was made with."""


class TableError(ValueError):
    """The base of the errors that tell what is wrong with a value."""


class InvalidTable(TableError):
    """No table can be made; the word tells what is wrong."""

    def __init__(self, word):
        self.word = word


class InvalidStep(TableError):
    """No step can be made; the word is the name of the first wrong argument."""

    def __init__(self, word):
        self.word = word


class InvalidScript(TableError):
    """No script can be made; the number is that of the wrong step, or -1."""

    def __init__(self, at, word):
        self.at = at
        self.word = word


class InvalidKind(TableError):
    """No kind can be made; the word tells what is wrong."""

    def __init__(self, word):
        self.word = word


class InvalidText(TableError):
    """A text cannot be read; the number is that of the first wrong line."""

    def __init__(self, at):
        self.at = at


class InvalidCommand(TableError):
    """A desk does not know this command."""


class Mismatch(TableError):
    """Two things have other columns than they need to be taken together."""


class NoRow(IndexError):
    """A table has no row with this number."""

    def __init__(self, at):
        self.at = at


class NoStep(IndexError):
    """A script has no step with this number."""

    def __init__(self, at):
        self.at = at


class NoColumn(KeyError):
    """A table has no column with this name."""

    def __init__(self, name):
        self.name = name

"""Desks: they do commands, one after another, and can take them back."""

from meltback.deciding import within
from meltback.errors import InvalidCommand
from meltback.kinds import Kind
from meltback.rows import is_row, row_of_line
from meltback.scripts import Script
from meltback.tables import Table
from meltback.ways import way
from meltback.words import is_name

# This stands for a newline in commands and results.
NEWLINE = " ; "


def words_of(command):
    """The words of a command."""
    if not isinstance(command, str) or "\n" in command:
        raise InvalidCommand()
    words = command.split(" ")
    if "" in words:
        raise InvalidCommand()
    return words


def need(holds):
    """Raise an error unless the command has the right form."""
    if not holds:
        raise InvalidCommand()


def text_of(words):
    """The text that the words stand for, with its newlines."""
    return " ".join(words).replace(NEWLINE, "\n")


def line_of(text):
    """A text as one line of a result."""
    return text.replace("\n", NEWLINE)


def yes_or_no(holds):
    """The result for what holds or does not."""
    return "yes" if holds else "no"


def kind_said(desk, words):
    """Take a new kind, and no more rows and scripts."""
    need(words)
    kind = Kind.read(text_of(words))
    desk.change(kind, Table(kind.columns), {})
    return str(len(kind.columns))


def row_said(desk, words):
    """Put a row to the table."""
    row = row_of_line(" ".join(words))
    need(is_row(row, len(desk.kind.columns)))
    desk.change(desk.kind, desk.table | Table(desk.kind.columns, [row]), desk.scripts)
    return str(len(desk.table))


def keep_said(desk, words):
    """Keep a script by a name."""
    need(words and is_name(words[0]))
    script = Script.read(desk.kind.columns, text_of(words[1:]))
    desk.change(desk.kind, desk.table, {**desk.scripts, words[0]: script})
    return str(len(script))


def scripts_named(desk, words, many):
    """So many kept scripts, by their names."""
    need(len(words) == many and all([word in desk.scripts for word in words]))
    return [desk.scripts[word] for word in words]


def show_said(desk, words):
    """Show what a script tells of the table."""
    script = scripts_named(desk, words, 1)[0]
    return line_of(str(script(desk.table)))


def fits_said(desk, words):
    """Tell whether the table is of the kind."""
    need(not words)
    return yes_or_no(desk.table in desk.kind)


def within_said(desk, words):
    """Tell whether a script tells no more than another one."""
    p, q = scripts_named(desk, words, 2)
    return yes_or_no(within(p, q, desk.kind))


def way_said(desk, words):
    """Tell a way from a script to another one."""
    p, q = scripts_named(desk, words, 2)
    found = way(p, q, desk.kind)
    if found is None:
        return "never"
    return line_of(str(found)) or "-"


def undo_said(desk, words):
    """Take back the last change."""
    need(not words)
    return "undone" if desk.changed_back() else "nothing"


DOING = {
    "kind": kind_said,
    "row": row_said,
    "keep": keep_said,
    "show": show_said,
    "fits": fits_said,
    "within": within_said,
    "way": way_said,
    "undo": undo_said,
}


class Trial:
    """A block behind which a desk is as it was when the block was entered."""

    def __init__(self, desk):
        self.desk = desk
        self.kind = desk.kind
        self.table = desk.table
        self.scripts = desk.scripts
        self.past = desk.past

    def __enter__(self):
        self.kind = self.desk.kind
        self.table = self.desk.table
        self.scripts = self.desk.scripts
        self.past = self.desk.past
        return self.desk

    def __exit__(self, kind, value, trace):
        self.desk.kind = self.kind
        self.desk.table = self.table
        self.desk.scripts = self.scripts
        self.desk.past = self.past


class Desk:
    """A kind, a table, and scripts by name, which commands change."""

    def __init__(self):
        self.kind = Kind(["a"])
        self.table = Table(["a"])
        # Neither a dict of scripts nor a tuple of the past is changed once it is here, so a trial needs no copies.
        self.scripts = {}
        self.past = ()

    def become(self, other):
        """Take over all that another desk keeps."""
        self.kind = other.kind
        self.table = other.table
        self.scripts = other.scripts
        self.past = other.past

    def change(self, kind, table, scripts):
        """Take these in the place of what is here, which can be taken back."""
        self.past = (*self.past, (self.kind, self.table, self.scripts))
        self.kind = kind
        self.table = table
        self.scripts = scripts

    def changed_back(self):
        """Take back the last change; whether there was any."""
        if not self.past:
            return False
        self.kind, self.table, self.scripts = self.past[-1]
        self.past = self.past[:-1]
        return True

    def say(self, command):
        """Do a command, and return its result."""
        words = words_of(command)
        need(words[0] in DOING)
        doing = DOING[words[0]]
        return doing(self, words[1:])

    def several(self, commands):
        """Do commands, and return the tuple of their results; if one raises an error, none of them counts."""
        # Another desk does them first, so an error leaves this one as it is.
        other = Desk()
        other.become(self)
        results = tuple([other.say(command) for command in commands])
        self.become(other)
        return results

    def trial(self):
        """A context manager with the desk as its value; behind the block the desk is as it was."""
        return Trial(self)

    def tried(self, work):
        """Call a function with the desk, which is as it was behind that; return what it returns."""
        with self.trial() as desk:
            return work(desk)

    def __len__(self):
        return len(self.past)

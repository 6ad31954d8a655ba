"""Scripts: steps one after another, and the columns at which they begin."""

from meltback.columns import ends_of
from meltback.errors import InvalidScript, Mismatch, NoStep
from meltback.lines import steps_of_text
from meltback.making import made_of
from meltback.steps import Is, Join, Melt, Pivot, Put, Stack, are_steps
from meltback.tables import Table
from meltback.words import are_names


def texts_of_step(step):
    """The texts that a step tells, within its steps, too."""
    if isinstance(step, (Is, Put)):
        return [step.text]
    if isinstance(step, Melt):
        return list(step.columns)
    if isinstance(step, Pivot):
        return list(step.heads)
    if isinstance(step, (Join, Stack)):
        return texts_of_steps(step.steps)
    return []


def texts_of_steps(steps):
    """The texts that steps tell."""
    return [text for step in steps for text in texts_of_step(step)]


class Script:
    """Steps that make tables of the tables with some columns."""

    def __init__(self, columns, steps=()):
        if not are_names(columns, 1):
            raise InvalidScript(-1, "columns")
        if not are_steps(steps):
            raise InvalidScript(-1, "steps")
        self.columns = tuple(columns)
        self.steps = tuple(steps)
        self.ends = ends_of(self.columns, self.steps)

    @classmethod
    def read(cls, columns, text):
        """The script with these columns of a text as `str` gives it."""
        return cls(columns, steps_of_text(text))

    @property
    def texts(self):
        """The ascending tuple of the texts that are told in the script."""
        return tuple(sorted(set(texts_of_steps(self.steps))))

    def without(self, at):
        """The script without one of its steps."""
        if not 0 <= at < len(self.steps):
            raise NoStep(at)
        return Script(self.columns, self.steps[:at] + self.steps[at + 1:])

    def upto(self, at):
        """The script of so many of the first steps."""
        if not 0 <= at <= len(self.steps):
            raise NoStep(at)
        return Script(self.columns, self.steps[:at])

    def __call__(self, table):
        if table.columns != self.columns:
            raise Mismatch()
        columns, rows = made_of(self.steps, self.columns, table.rows)
        return Table(columns, rows)

    def __len__(self):
        return len(self.steps)

    def __getitem__(self, at):
        if not 0 <= at < len(self.steps):
            raise NoStep(at)
        return self.steps[at]

    def __iter__(self):
        raise TypeError("a script is not iterable")

    def __rshift__(self, other):
        if not isinstance(other, Script):
            return NotImplemented
        if other.columns != self.ends:
            raise Mismatch()
        return Script(self.columns, self.steps + other.steps)

    def __eq__(self, other):
        return isinstance(other, Script) and self.columns == other.columns and str(self) == str(other)

    def __str__(self):
        return "\n".join([str(step) for step in self.steps])

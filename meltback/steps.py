"""The steps of scripts: their arguments and their texts."""

from meltback.errors import InvalidStep
from meltback.words import are_names, is_name, is_sequence, is_text


class Step:
    """What all steps are; only the steps below are made."""

    def __eq__(self, other):
        return isinstance(other, Step) and str(self) == str(other)

    def __str__(self):
        return ""


def need(holds, word):
    """Raise an error that tells the name of an argument, unless the argument is right."""
    if not holds:
        raise InvalidStep(word)


def are_steps(value):
    """Whether a value is a sequence of steps."""
    return is_sequence(value) and all([isinstance(step, Step) for step in value])


class Pick(Step):
    """These columns alone, in this order."""

    def __init__(self, columns):
        need(are_names(columns, 1), "columns")
        self.columns = tuple(columns)

    def __eq__(self, other):
        return isinstance(other, Pick) and str(self) == str(other)

    def __str__(self):
        return " ".join(["pick", *self.columns])


class Rename(Step):
    """A column gets another name, in its place."""

    def __init__(self, old, new):
        need(is_name(old), "old")
        need(is_name(new), "new")
        self.old = old
        self.new = new

    def __eq__(self, other):
        return isinstance(other, Rename) and str(self) == str(other)

    def __str__(self):
        return f"rename {self.old} {self.new}"


class Has(Step):
    """The rows in which this cell is there."""

    def __init__(self, column):
        need(is_name(column), "column")
        self.column = column

    def __eq__(self, other):
        return isinstance(other, Has) and str(self) == str(other)

    def __str__(self):
        return f"has {self.column}"


class Is(Step):
    """The rows in which this cell is this text."""

    def __init__(self, column, text):
        need(is_name(column), "column")
        need(is_text(text), "text")
        self.column = column
        self.text = text

    def __eq__(self, other):
        return isinstance(other, Is) and str(self) == str(other)

    def __str__(self):
        return f"is {self.column} {self.text}"


class Put(Step):
    """A new column, behind the others, with this text in each row."""

    def __init__(self, column, text):
        need(is_name(column), "column")
        need(is_text(text), "text")
        self.column = column
        self.text = text

    def __eq__(self, other):
        return isinstance(other, Put) and str(self) == str(other)

    def __str__(self):
        return f"put {self.column} {self.text}"


class Alike(Step):
    """The rows in which both cells are there and are the same."""

    def __init__(self, column, other):
        need(is_name(column), "column")
        need(is_name(other), "other")
        self.column = column
        self.other = other

    def __eq__(self, other):
        return isinstance(other, Alike) and str(self) == str(other)

    def __str__(self):
        return f"alike {self.column} {self.other}"


class Melt(Step):
    """A row with a name and a value for each cell that is there under these columns."""

    def __init__(self, columns, name, value):
        need(are_names(columns, 1), "columns")
        need(is_name(name), "name")
        need(is_name(value), "value")
        self.columns = tuple(columns)
        self.name = name
        self.value = value

    def __eq__(self, other):
        return isinstance(other, Melt) and str(self) == str(other)

    def __str__(self):
        return " ".join(["melt", *self.columns, "as", self.name, self.value])


class Pivot(Step):
    """A column for each head, and rows for each way to choose values for the heads."""

    def __init__(self, by, name, value, heads):
        need(are_names(by, 0), "by")
        need(is_name(name), "name")
        need(is_name(value), "value")
        need(are_names(heads, 1), "heads")
        self.by = tuple(by)
        self.name = name
        self.value = value
        self.heads = tuple(heads)

    def __eq__(self, other):
        return isinstance(other, Pivot) and str(self) == str(other)

    def __str__(self):
        return " ".join(["pivot", *self.by, "by", self.name, self.value, "to", *self.heads])


class Join(Step):
    """The rows with the cells of those rows that the steps make and that are alike under the columns."""

    def __init__(self, columns, steps):
        need(are_names(columns, 0), "columns")
        need(are_steps(steps), "steps")
        self.columns = tuple(columns)
        self.steps = tuple(steps)

    def __eq__(self, other):
        return isinstance(other, Join) and str(self) == str(other)

    def __str__(self):
        return "\n".join([" ".join(["join", *self.columns]), *[str(step) for step in self.steps], "end"])


class Stack(Step):
    """The rows, and those that the steps make of them."""

    def __init__(self, steps):
        need(are_steps(steps), "steps")
        self.steps = tuple(steps)

    def __eq__(self, other):
        return isinstance(other, Stack) and str(self) == str(other)

    def __str__(self):
        return "\n".join(["stack", *[str(step) for step in self.steps], "end"])

"""Kinds: tables in which some columns never lack, and that keep rules."""

from meltback.errors import InvalidKind, InvalidText, Mismatch
from meltback.rows import cells_at, has_width, places_of
from meltback.tables import Table
from meltback.words import are_names, is_sequence


def are_among(value, columns):
    """Whether a value is a sequence of different ones of the columns."""
    if not is_sequence(value) or not all([name in columns for name in value]):
        return False
    return len(set(value)) == len(value)


def is_rule(value, columns):
    """Whether a value is a pair of different columns and one other column."""
    if not has_width(value, 2) or not are_among(value[0], columns):
        return False
    return value[1] in columns and value[1] not in value[0]


def are_rules(value, columns):
    """Whether a value is a sequence of rules."""
    return is_sequence(value) and all([is_rule(rule, columns) for rule in value])


def columns_always_there(kind):
    """The columns that never lack; as a row has a text, a column alone is one of them."""
    return kind.columns if len(kind.columns) == 1 else kind.always


def columns_agreed(kind, by, there):
    """The columns in which two rows with texts in the columns `there` alone agree if they do so in `by`."""
    agreed = list(by)
    # Each round is of use to one more rule, or no later one is of use.
    for turn in kind.rules:
        for its, column in kind.rules:
            if column in there and column not in agreed and all([name in agreed for name in its]):
                agreed.append(column)
    return agreed


def keeps_rule(table, by, column):
    """Whether no two rows of a table have unlike texts under the column behind the same ones."""
    places = places_of((*by, column), table.columns)
    told = [cells for cells in [cells_at(row, places) for row in table.rows] if None not in cells]
    return len(set(told)) == len(set([cells[:-1] for cells in told]))


def never_lacks(table, name):
    """Whether the cells in a column are all there."""
    at = table.columns.index(name)
    return None not in [row[at] for row in table.rows]


def asks_all(kind, other):
    """Whether what a kind asks for brings all that another one with the same columns asks for."""
    always = columns_always_there(kind)
    if not all([name in always for name in columns_always_there(other)]):
        return False
    return all([kind.follows(by, column) for by, column in other.rules])


def lines_of_kind(kind):
    """The lines of the text of a kind."""
    always = [" ".join(["always", *kind.always])] if kind.always else []
    rules = [" ".join(["rule", *by, ":", column]) for by, column in kind.rules]
    return [" ".join(kind.columns), *always, *rules]


def read_rule(line, columns, at):
    """The rule of a line."""
    words = line.split(" ")
    rule = (words[1:-2], words[-1])
    if words[0] != "rule" or words[-2:-1] != [":"] or not is_rule(rule, columns):
        raise InvalidText(at)
    return rule


def read_always(line, columns):
    """The columns that a line tells to be always there; none if it is no such line."""
    words = line.split(" ")
    return words[1:] if words[0] == "always" and are_among(words[1:], columns) else []


class Kind:
    """The tables with some columns in which these never lack and that keep the rules."""

    def __init__(self, columns, always=(), rules=()):
        if not are_names(columns, 1):
            raise InvalidKind("columns")
        if not are_among(always, columns):
            raise InvalidKind("always")
        if not are_rules(rules, columns):
            raise InvalidKind("rules")
        self.columns = tuple(columns)
        self.always = tuple(sorted(set(always)))
        self.rules = tuple([(tuple(by), column) for by, column in rules])

    @classmethod
    def read(cls, text):
        """The kind of a text as `str` gives it, the columns behind `always` in any order."""
        lines = text.split("\n")
        columns = lines[0].split(" ")
        if not are_names(columns, 1):
            raise InvalidText(0)
        always = [name for line in lines[1:2] for name in read_always(line, columns)]
        first = 2 if always else 1
        rules = [read_rule(line, columns, at) for at, line in enumerate(lines[first:], start=first)]
        return cls(columns, always, rules)

    def follows(self, by, column):
        """Whether all tables of the kind keep this rule, too."""
        # Two rows that lack all they may lack break a rule if any do: other cells would only bring more rules to bear.
        return column in columns_agreed(self, by, (*columns_always_there(self), *by, column))

    def __contains__(self, table):
        if not isinstance(table, Table) or table.columns != self.columns:
            return False
        if not all([never_lacks(table, name) for name in self.always]):
            return False
        return all([keeps_rule(table, by, column) for by, column in self.rules])

    def __and__(self, other):
        if not isinstance(other, Kind):
            return NotImplemented
        if self.columns != other.columns:
            raise Mismatch()
        return Kind(self.columns, sorted(set(self.always + other.always)), self.rules + other.rules)

    def __eq__(self, other):
        return isinstance(other, Kind) and self <= other and other <= self

    def __le__(self, other):
        if not isinstance(other, Kind):
            return NotImplemented
        return self.columns == other.columns and asks_all(self, other)

    def __lt__(self, other):
        if not isinstance(other, Kind):
            return NotImplemented
        return self <= other and not other <= self

    def __ge__(self, other):
        if not isinstance(other, Kind):
            return NotImplemented
        return other <= self

    def __gt__(self, other):
        if not isinstance(other, Kind):
            return NotImplemented
        return other < self

    def __str__(self):
        return "\n".join(lines_of_kind(self))

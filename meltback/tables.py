"""Tables: columns, and the rows that are part of no other one."""

from meltback.errors import InvalidTable, InvalidText, Mismatch, NoColumn, NoRow
from meltback.rows import all_told, has_width, is_row, places_told, row_line, row_mapped, row_of_line, rows_left
from meltback.rows import told_by_both
from meltback.words import are_names, is_cell, is_sequence


def need_rows(rows, width):
    """Raise the first error there is in the rows of a table."""
    if not is_sequence(rows):
        raise InvalidTable("rows")
    if not all([has_width(row, width) for row in rows]):
        raise InvalidTable("row")
    if not all([is_cell(cell) for row in rows for cell in row]):
        raise InvalidTable("cell")


def need_same_columns(table, other):
    """Raise an error unless the tables have the same columns in the same order."""
    if table.columns != other.columns:
        raise Mismatch()


def read_rows(lines, width):
    """The rows of the lines below the one of the columns."""
    rows = [row_of_line(line) for line in lines]
    for at, row in enumerate(rows, start=1):
        if not is_row(row, width):
            raise InvalidText(at)
    return rows


def different_texts(cells):
    """The ascending tuple of the texts among the cells."""
    return tuple(sorted(set([cell for cell in cells if cell is not None])))


class Table:
    """Columns, and rows that tell all their parts, too."""

    def __init__(self, columns, rows=()):
        if not are_names(columns, 1):
            raise InvalidTable("columns")
        need_rows(rows, len(columns))
        self.columns = tuple(columns)
        self.rows = rows_left(rows)

    @classmethod
    def read(cls, text):
        """The table of a text as `str` gives it, its rows in any order and again."""
        lines = text.split("\n")
        columns = lines[0].split(" ")
        if not are_names(columns, 1):
            raise InvalidText(0)
        return cls(columns, read_rows(lines[1:], len(columns)))

    @property
    def texts(self):
        """The ascending tuple of the texts in the table."""
        return different_texts([cell for row in self.rows for cell in row])

    def under(self, name):
        """The ascending tuple of the texts in a column."""
        if name not in self.columns:
            raise NoColumn(name)
        at = self.columns.index(name)
        return different_texts([row[at] for row in self.rows])

    def mapped(self, texts):
        """The table with other texts in the place of its own, where the dict has one."""
        return Table(self.columns, [row_mapped(row, texts) for row in self.rows])

    def __len__(self):
        return len(self.rows)

    def __getitem__(self, at):
        if not 0 <= at < len(self.rows):
            raise NoRow(at)
        return self.rows[at]

    def __iter__(self):
        raise TypeError("a table is not iterable")

    def __contains__(self, row):
        if not is_row(row, len(self.columns)):
            return False
        return places_told(row) != () and all_told([row], self.rows)

    def __eq__(self, other):
        return isinstance(other, Table) and self.columns == other.columns and self.rows == other.rows

    def __le__(self, other):
        if not isinstance(other, Table):
            return NotImplemented
        need_same_columns(self, other)
        return all_told(self.rows, other.rows)

    def __lt__(self, other):
        if not isinstance(other, Table):
            return NotImplemented
        return self <= other and self.rows != other.rows

    def __ge__(self, other):
        if not isinstance(other, Table):
            return NotImplemented
        return other <= self

    def __gt__(self, other):
        if not isinstance(other, Table):
            return NotImplemented
        return other < self

    def __or__(self, other):
        if not isinstance(other, Table):
            return NotImplemented
        need_same_columns(self, other)
        return Table(self.columns, self.rows + other.rows)

    def __and__(self, other):
        if not isinstance(other, Table):
            return NotImplemented
        need_same_columns(self, other)
        return Table(self.columns, [told_by_both(row, its) for row in self.rows for its in other.rows])

    def __str__(self):
        return "\n".join([" ".join(self.columns), *[row_line(row) for row in self.rows]])

"""Sketches: shapes while they are found, in which unknowns are numbers."""

from meltback.rows import cells_at, choices, places_of, row_mapped


class Sketch:
    """A row that a script tells of some rows; its unknowns are numbers below `many`."""

    def __init__(self, row, rows, many):
        self.row = row
        self.rows = rows
        self.many = many


def first_sketches(columns, always):
    """The sketches of one row of unknowns: all columns always there, and any of the others."""
    cells = [(at,) if name in always else (at, None) for at, name in enumerate(columns)]
    rows = [row for row in choices(cells) if has_cells(row)]
    return [Sketch(row, (row,), len(columns)) for row in rows]


def has_cells(row):
    """Whether a cell of a row is there."""
    return row != (None,) * len(row)


def with_row(sketch, row):
    """The sketch with another row told of the same rows."""
    return Sketch(row, sketch.rows, sketch.many)


def mapped_cells(sketch, cells):
    """The sketch with other cells in the place of its own, where the dict has one."""
    rows = tuple([row_mapped(row, cells) for row in sketch.rows])
    return Sketch(row_mapped(sketch.row, cells), rows, sketch.many)


def made_same(sketch, cell, other):
    """A list of the sketch in which an unknown has given way; empty for unlike told texts."""
    if cell == other:
        return [sketch]
    if isinstance(cell, int):
        return [mapped_cells(sketch, {cell: other})]
    if isinstance(other, int):
        return [mapped_cells(sketch, {other: cell})]
    return []


def with_text(sketch, at, text):
    """A list of the sketch with this text in a cell of its row, if it can be there."""
    cell = sketch.row[at]
    return [] if cell is None else made_same(sketch, cell, text)


def with_alike(sketch, at, its):
    """A list of the sketch with two cells of its row made the same, if they are there."""
    cell = sketch.row[its]
    return [] if cell is None else with_text(sketch, at, cell)


def all_with_alike(sketches, pairs):
    """The sketches with the cells of their rows made the same for each pair of places."""
    for at, its in pairs:
        sketches = [one for sketch in sketches for one in with_alike(sketch, at, its)]
    return sketches


def beside(sketch, other):
    """Two sketches side by side, the unknowns of the other one being further ones."""
    further = {number: number + sketch.many for number in range(other.many)}
    moved = mapped_cells(other, further)
    return Sketch(sketch.row + moved.row, sketch.rows + moved.rows, sketch.many + other.many)


def clashes(rows, by, at):
    """The pairs of unlike cells at a place, in rows with the same cells at the places `by`."""
    met = {}
    for row in rows:
        cells = cells_at(row, by)
        if None not in cells and row[at] is not None:
            met.setdefault(cells, []).append(row[at])
    return [(same[0], cell) for same in list(met.values()) for cell in same if cell != same[0]]


def first_clash(sketch, rules):
    """A list of the first pair of cells that the rules ask to be the same; empty if all are."""
    for by, at in rules:
        found = clashes(sketch.rows, by, at)
        if found:
            return found[:1]
    return []


def with_rules(sketch, rules):
    """A list of the sketch with its rules kept; empty if told texts are unlike."""
    left = [sketch]
    while left and (found := first_clash(left[0], rules)):
        cell, other = found[0]
        left = made_same(left[0], cell, other)
    return left

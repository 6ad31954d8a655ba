"""What steps make of the rows of a table."""

from meltback.columns import columns_gained, columns_renamed, columns_that_stay
from meltback.rows import cells_at, choices, places_of, rows_left
from meltback.steps import Alike, Has, Is, Join, Melt, Pick, Pivot, Put, Rename, Stack


def rows_kept(step, columns, rows):
    """The rows that a step keeps that asks something of each row."""
    if isinstance(step, Has):
        at = columns.index(step.column)
        return [row for row in rows if row[at] is not None]
    if isinstance(step, Is):
        at = columns.index(step.column)
        return [row for row in rows if row[at] == step.text]
    if isinstance(step, Alike):
        at, its = places_of((step.column, step.other), columns)
        return [row for row in rows if row[at] is not None and row[at] == row[its]]
    return rows


def rows_picked(columns, names, rows):
    """The cells of the rows under the columns with these names."""
    places = places_of(names, columns)
    return rows_left([cells_at(row, places) for row in rows])


def rows_melted(step, columns, rows):
    """A row for each cell that is there under the melted columns."""
    staying = places_of(columns_that_stay(step, columns), columns)
    melted = list(zip(step.columns, places_of(step.columns, columns)))
    made = [cells_at(row, staying) + (name, row[at]) for row in rows for name, at in melted if row[at] is not None]
    return rows_left(made)


def values_found(step, columns, rows):
    """The values that a pivot meets: a dict by the cells of `by`, then by the head."""
    places = places_of(step.by, columns)
    name, value = places_of((step.name, step.value), columns)
    found = {}
    for row in rows:
        cells = cells_at(row, places)
        if None not in cells and row[name] in step.heads and row[value] is not None:
            values = found.setdefault(cells, {}).setdefault(row[name], {})
            values[row[value]] = True
    return found


def rows_pivoted(step, columns, rows):
    """For unlike cells of `by`, a row for each way to choose a value for each head."""
    found = values_found(step, columns, rows)
    made = []
    for cells in found:
        under = [list(found[cells].get(head, (None,))) for head in step.heads]
        made.extend([cells + chosen for chosen in choices(under)])
    return made


def joined(step, columns, rows):
    """The columns and rows of a join."""
    its_columns, its_rows = made_of(step.steps, columns, rows)
    gained = columns_gained(step, its_columns)
    its_places = places_of(step.columns, its_columns)
    gained_places = places_of(gained, its_columns)
    partners = {}
    for row in its_rows:
        partners.setdefault(cells_at(row, its_places), []).append(cells_at(row, gained_places))
    places = places_of(step.columns, columns)
    alone = [(None,) * len(gained)]
    made = []
    for row in rows:
        cells = cells_at(row, places)
        others = alone if None in cells else partners.get(cells, alone)
        made.extend([row + other for other in others])
    return columns + gained, made


def stacked(step, columns, rows):
    """The rows, and those that the steps of a stack make of them."""
    its_columns, its_rows = made_of(step.steps, columns, rows)
    return rows_left([*rows, *rows_picked(its_columns, columns, its_rows)])


def made_by(step, columns, rows):
    """The columns and rows that a step makes."""
    if isinstance(step, Join):
        return joined(step, columns, rows)
    if isinstance(step, Stack):
        return columns, stacked(step, columns, rows)
    if isinstance(step, Pick):
        return step.columns, rows_picked(columns, step.columns, rows)
    if isinstance(step, Rename):
        return columns_renamed(step, columns), rows
    if isinstance(step, Put):
        return (*columns, step.column), [(*row, step.text) for row in rows]
    if isinstance(step, Melt):
        return (*columns_that_stay(step, columns), step.name, step.value), rows_melted(step, columns, rows)
    if isinstance(step, Pivot):
        return step.by + step.heads, rows_pivoted(step, columns, rows)
    return columns, rows_kept(step, columns, rows)


def made_of(steps, columns, rows):
    """The columns and rows that steps make, one after another."""
    for step in steps:
        columns, rows = made_by(step, columns, rows)
    return columns, rows

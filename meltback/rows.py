"""Rows: tuples of cells, and which of them are part of other ones."""

from meltback.words import is_cell, is_sequence

LACKING = "-"


def has_width(value, width):
    """Whether a value is a sequence of so many things."""
    return is_sequence(value) and len(value) == width


def is_row(value, width):
    """Whether a value is a sequence of so many cells."""
    return has_width(value, width) and all([is_cell(cell) for cell in value])


def places_told(row):
    """The numbers of the columns whose cells are there."""
    return tuple([at for at, cell in enumerate(row) if cell is not None])


def cells_at(row, places):
    """The cells under the columns with these numbers."""
    return tuple([row[at] for at in places])


def cells_of(rows):
    """The cells of rows, one row behind another."""
    return tuple([cell for row in rows for cell in row])


def places_of(names, columns):
    """The numbers that these names have among the columns."""
    return tuple([columns.index(name) for name in names])


def choices(lists):
    """All ways to choose one thing of each of the lists, as tuples."""
    chosen = [()]
    for things in lists:
        chosen = [(*ahead, thing) for ahead in chosen for thing in things]
    return chosen


def with_places(rows):
    """Each row behind the places of its texts."""
    return [(places_told(row), row) for row in rows]


def unlike_places(marked):
    """The different places that stand ahead of rows, but for rows without texts."""
    return sorted(set([places for places, row in marked if places]))


# Rows with texts at the same places are compared by these texts alone. So one
# look-up for all rows with these places takes the place of a look at each pair
# of rows, of which there are far too many when joins have made thousands.


def all_told(rows, others):
    """Whether each of the rows, if it has texts, is part of one of the others."""
    marked = with_places(rows)
    for places in unlike_places(marked):
        told = {cells_at(other, places): True for other in others}
        if not all([cells_at(row, places) in told for its, row in marked if its == places]):
            return False
    return True


def ascending(rows):
    """The different ones of the rows, as tuples in their order."""
    # Python does not compare None with strings; the empty one is ahead of all texts.
    plain = [tuple([cell or "" for cell in row]) for row in rows]
    return tuple([tuple([cell or None for cell in row]) for row in sorted(set(plain))])


def rows_left(rows):
    """The rows with texts that are part of no other row, ascending."""
    marked = with_places(ascending(rows))
    kept = []
    for places in unlike_places(marked):
        # A row with other places has texts at all of these only if it has more than these.
        larger = {cells_at(row, places): True for its, row in marked if its != places}
        alike = [row for its, row in marked if its == places]
        kept.extend([row for row in alike if cells_at(row, places) not in larger])
    return ascending(kept)


def told_by_both(row, other):
    """The largest row that is part of both."""
    return tuple([cell if cell == its else None for cell, its in zip(row, other)])


def row_mapped(row, texts):
    """The row with other texts in the place of its own, where the dict has one."""
    return tuple([texts.get(cell, cell) for cell in row])


def row_line(row):
    """The line of a row."""
    return " ".join([cell or LACKING for cell in row])


def row_of_line(line):
    """The words of a line as a row; whether they are cells is not asked here."""
    return tuple([None if word == LACKING else word for word in line.split(" ")])

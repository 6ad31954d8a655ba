"""Whether sketches lead to a row: what is told of a table is seen so without a look at all that is told of it."""


def with_cells(cells, pairs):
    """The cells of unknowns, with those that make both cells of each pair the same text; None if nothing does."""
    found = dict(cells)
    for cell, its in pairs:
        made = found.setdefault(cell, its) if isinstance(cell, int) else cell
        if its is None or made != its:
            return None
    return found


def placings(row, rows, cells):
    """The cells of unknowns with which a row is part of one of the rows."""
    places = [at for at, cell in enumerate(row) if cell is not None]
    found = [with_cells(cells, [(row[at], its[at]) for at in places]) for its in rows]
    return [some for some in found if some is not None]


def can_be_placed(left, rows, cells):
    """Whether all rows that are left are parts of some of the rows, with further cells of unknowns."""
    if not left:
        return True
    fewest = 0
    options = placings(left[0], rows, cells)
    for at in range(1, len(left)):
        others = placings(left[at], rows, cells) if len(options) > 1 else options
        if len(others) < len(options):
            fewest, options = at, others
    rest = left[:fewest] + left[fewest + 1:]
    for option in options:
        if can_be_placed(rest, rows, option):
            return True
    return False


def leads(sketch, row, rows):
    """Whether a sketch leads to a row of which this one is a part, and its rows to parts of the rows."""
    cells = with_cells({}, [(cell, its) for cell, its in zip(sketch.row, row) if its is not None])
    return cells is not None and can_be_placed(sketch.rows, rows, cells)


def one_leads(sketches, row, rows):
    """Whether one of the sketches leads to a row of which this one is a part."""
    for sketch in sketches:
        if leads(sketch, row, rows):
            return True
    return False

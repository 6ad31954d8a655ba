"""Whether a shape leads to a row, tried out cell by cell."""


def matched(row, other, texts, told, exactly):
    """The dict with which the row is the other one, or a part of it; None if there is none."""
    texts = dict(texts)
    for cell, its in zip(row, other):
        if cell is None:
            if exactly and its is not None:
                return None
        elif cell in told:
            if cell != its:
                return None
        elif its is None or texts.setdefault(cell, its) != its:
            return None
    return texts


def ways_within(rows, table, texts, told):
    """All dicts, from this one on, with which each of the rows is told by the table."""
    if not rows:
        yield texts
        return
    for its in table.rows:
        more = matched(rows[0], its, texts, told, False)
        if more is not None:
            yield from ways_within(rows[1:], table, more, told)


def led(shape, told, table, row):
    """A dict with which the shape's row is this row, and its table tells no more than the table; or None."""
    texts = matched(shape.row, row, {}, told, True)
    if texts is None:
        return None
    return next(ways_within(shape.table.rows, table, texts, told), None)

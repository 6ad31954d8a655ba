"""Whether papers are right and ways are ways, asked word by word."""

from itertools import product

from meltback.tables import Table
from model import model


def parts_of(row):
    """All rows with texts that are part of the row."""
    cells = [(cell,) if cell is None else (cell, None) for cell in row]
    return [part for part in product(*cells) if any(part)]


def told_by(table):
    return {part for row in table.rows for part in parts_of(row)}


def is_right(p, q, kind, value):
    """Whether a tuple of four is a right paper, by what the slow model tells."""
    first, second, row, pairs = value
    if not (isinstance(first, Table) and isinstance(second, Table) and first in kind and second in kind):
        return False
    heads = [text for text, other in pairs]
    if heads != sorted(set(heads)) or set(heads) & {*p.texts, *q.texts}:
        return False
    texts = dict(pairs)
    mapped = {tuple(texts.get(cell, cell) for cell in its) for its in told_by(model(p, first))}
    if row not in told_by(model(q, first)) or not mapped <= told_by(model(p, second)):
        return False
    return tuple(texts.get(cell, cell) for cell in row) not in told_by(model(q, second))


def has_the_form(value):
    """Whether a value has the form of a paper, tuples throughout."""
    if not (isinstance(value, tuple) and len(value) == 4 and isinstance(value[2], tuple) and isinstance(value[3], tuple)):
        return False
    return all(isinstance(pair, tuple) and len(pair) == 2 and all(isinstance(text, str) for text in pair) for pair in value[3])

"""All small tables of a kind, and tables of it by chance."""

from itertools import combinations, product

from choosing import TEXTS, some_table_of
from meltback.tables import Table


def tables_of(kind, many, texts):
    """All tables of the kind with so many rows, over these texts."""
    cells = [list(texts) if name in kind.always else [None, *texts] for name in kind.columns]
    rows = [row for row in product(*cells) if any(row)]
    for some in combinations(rows, many):
        table = Table(kind.columns, some)
        if len(table) == many and table in kind:
            yield table


def drawn_tables(chosen, kind, many, longest=6):
    """So many tables of the kind by chance, and all of one row over few texts."""
    yield from tables_of(kind, 1, TEXTS[:2])
    for number in range(many):
        yield some_table_of(chosen, kind, chosen.randint(0, longest))

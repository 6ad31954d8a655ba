"""Shapes: few rows with texts that stand for any, for each row that a script may tell."""

from meltback.errors import Mismatch
from meltback.kinds import columns_always_there
from meltback.rows import places_of, row_mapped
from meltback.sketches import first_sketches, with_rules
from meltback.sketching import sketches_of
from meltback.steps import Join, Melt, Pivot, Stack
from meltback.tables import Table


class Shape:
    """A table, and a row that a script tells of it; texts that are not told in the script stand for any."""

    def __init__(self, table, row, told):
        self.table = table
        self.row = row
        self.told = told

    def mapped(self, texts):
        """The table and the row with other texts in the place of unknowns."""
        others = {text: texts[text] for text in texts if text not in self.told}
        return self.table.mapped(others), row_mapped(self.row, others)


def need_columns(script, kind):
    """Raise an error unless the script begins with the columns of the kind."""
    if script.columns != kind.columns:
        raise Mismatch()


def unknowns_in(sketch):
    """The different unknowns of a sketch."""
    return list({cell: True for row in (sketch.row, *sketch.rows) for cell in row if isinstance(cell, int)})


def free_texts(many, told):
    """So many texts that are not told."""
    # Not more of these are left out than there are told texts, so enough stay.
    texts = [f"u{number}" for number in range(many + len(told))]
    return [text for text in texts if text not in told][:many]


def unknown_texts(cells, told):
    """The ascending list of the texts among the cells that are not told."""
    return sorted(set([cell for cell in cells if cell is not None and cell not in told]))


def shape_of(sketch, columns, told):
    """The shape of a sketch: texts that are not told take the place of the numbers."""
    unknowns = unknowns_in(sketch)
    texts = dict(zip(unknowns, free_texts(len(unknowns), told)))
    table = Table(columns, [row_mapped(row, texts) for row in sketch.rows])
    return Shape(table, row_mapped(sketch.row, texts), told)


def rules_placed(kind):
    """The rules of a kind, with numbers in the place of the columns."""
    return [(places_of(by, kind.columns), kind.columns.index(column)) for by, column in kind.rules]


def first_of(kind):
    """The sketches of nothing done."""
    return first_sketches(kind.columns, columns_always_there(kind))


def sketches_for(script, kind):
    """The sketches of a script for a kind, with its rules kept."""
    need_columns(script, kind)
    columns, sketches = sketches_of(script.steps, kind.columns, first_of(kind))
    rules = rules_placed(kind)
    return [one for sketch in sketches for one in with_rules(sketch, rules)]


def shapes_apart(script, kind, texts):
    """The shapes of a script for a kind, none of whose unknowns is one of these texts."""
    told = (*script.texts, *texts)
    return [shape_of(sketch, kind.columns, told) for sketch in sketches_for(script, kind)]


def shapes(script, kind):
    """The shapes of a script for a kind: one leads to each row that the script makes of any table."""
    return tuple(shapes_apart(script, kind, ()))


def tells(script, table, row):
    """Whether any value is a row that the script tells of the table."""
    return row in script(table)


def power(worth, times):
    """A number multiplied so many times."""
    made = 1
    for turn in range(times):
        made = made * worth
    return made


def weight_of_step(step, worth):
    """The weight behind a step, with the one ahead of it."""
    if isinstance(step, Melt):
        return worth * len(step.columns)
    if isinstance(step, Pivot):
        return power(1 + worth, len(step.heads)) - 1
    if isinstance(step, Join):
        return worth + worth * weight_of_steps(step.steps, worth)
    if isinstance(step, Stack):
        return worth + weight_of_steps(step.steps, worth)
    return worth


def weight_of_steps(steps, worth):
    """The weight behind steps, with the one ahead of them."""
    for step in steps:
        worth = weight_of_step(step, worth)
    return worth


def weight(script, kind):
    """How many shapes there can be of a script for a kind."""
    need_columns(script, kind)
    lacking = len(kind.columns) - len(kind.always)
    first = power(2, lacking) - (0 if kind.always else 1)
    return weight_of_steps(script.steps, first)

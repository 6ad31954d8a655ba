"""What steps make of sketches: for each row that a step may make, the rows that it comes of."""

from meltback.columns import columns_gained, columns_renamed, columns_that_stay
from meltback.rows import cells_at, choices, places_of
from meltback.sketches import Sketch, all_with_alike, beside, has_cells, with_row, with_text
from meltback.steps import Alike, Has, Is, Join, Melt, Pick, Pivot, Put, Rename, Stack


def kept(step, columns, sketches):
    """The sketches of a step that keeps rows."""
    if isinstance(step, Has):
        at = columns.index(step.column)
        return [sketch for sketch in sketches if sketch.row[at] is not None]
    if isinstance(step, Is):
        at = columns.index(step.column)
        return [one for sketch in sketches for one in with_text(sketch, at, step.text)]
    if isinstance(step, Alike):
        return all_with_alike(sketches, [places_of((step.column, step.other), columns)])
    return sketches


def picked(columns, names, sketches):
    """The sketches with the cells under the columns with these names alone."""
    places = places_of(names, columns)
    made = [with_row(sketch, cells_at(sketch.row, places)) for sketch in sketches]
    return [sketch for sketch in made if has_cells(sketch.row)]


def melted(step, columns, sketches):
    """A sketch for each melted column whose cell is there."""
    staying = places_of(columns_that_stay(step, columns), columns)
    made = []
    for sketch in sketches:
        row = cells_at(sketch.row, staying)
        for name, at in zip(step.columns, places_of(step.columns, columns)):
            if sketch.row[at] is not None:
                made.append(with_row(sketch, (*row, name, sketch.row[at])))
    return made


def sketches_under(head, step, columns, sketches):
    """The sketches of rows that count for a head: with the cells of `by`, and the value."""
    at = columns.index(step.name)
    named = [one for sketch in sketches for one in with_text(sketch, at, head)]
    counting = places_of((*step.by, step.value), columns)
    made = [with_row(sketch, cells_at(sketch.row, counting)) for sketch in named]
    return [sketch for sketch in made if None not in sketch.row]


def pivoted_together(chosen, width):
    """The sketches of the rows of a pivot, of one sketch for each of its heads.

    The rows of these have `width` cells of `by`, then the value; one of no rows is for a head without a value.
    """
    together = chosen[0]
    for sketch in chosen[1:]:
        together = beside(together, sketch)
    starts = [number * (width + 1) for number in range(len(chosen))]
    met = [start for start, sketch in zip(starts, chosen) if sketch.rows]
    pairs = [(met[0] + at, start + at) for start in met[1:] for at in range(width)]
    places = [met[0] + at for at in range(width)] + [start + width for start in starts]
    return [with_row(sketch, cells_at(sketch.row, places)) for sketch in all_with_alike([together], pairs)]


def pivoted(step, columns, sketches):
    """The sketches of a pivot: for each choice of heads, of a sketch ahead for each of these."""
    width = len(step.by)
    without_value = Sketch((None,) * (width + 1), (), 0)
    under = [[without_value, *sketches_under(head, step, columns, sketches)] for head in step.heads]
    # The first choice is of no head at all.
    return [sketch for chosen in choices(under)[1:] for sketch in pivoted_together(chosen, width)]


def joined(step, columns, sketches):
    """The columns and sketches of a join: those ahead alone, and with each of the other table."""
    its_columns, its_sketches = sketches_of(step.steps, columns, sketches)
    gained = columns_gained(step, its_columns)
    width = len(columns)
    pairs = [(columns.index(name), width + its_columns.index(name)) for name in step.columns]
    both = all_with_alike([beside(sketch, its) for sketch in sketches for its in its_sketches], pairs)
    places = list(range(width)) + [width + at for at in places_of(gained, its_columns)]
    alone = [with_row(sketch, sketch.row + (None,) * len(gained)) for sketch in sketches]
    return columns + gained, [*alone, *[with_row(sketch, cells_at(sketch.row, places)) for sketch in both]]


def stacked(step, columns, sketches):
    """The sketches of a stack: those ahead, and those of its steps."""
    its_columns, its_sketches = sketches_of(step.steps, columns, sketches)
    return [*sketches, *picked(its_columns, columns, its_sketches)]


def made_by(step, columns, sketches):
    """The columns and sketches of a step."""
    if isinstance(step, Join):
        return joined(step, columns, sketches)
    if isinstance(step, Stack):
        return columns, stacked(step, columns, sketches)
    if isinstance(step, Pick):
        return step.columns, picked(columns, step.columns, sketches)
    if isinstance(step, Rename):
        return columns_renamed(step, columns), sketches
    if isinstance(step, Put):
        return (*columns, step.column), [with_row(sketch, (*sketch.row, step.text)) for sketch in sketches]
    if isinstance(step, Melt):
        return (*columns_that_stay(step, columns), step.name, step.value), melted(step, columns, sketches)
    if isinstance(step, Pivot):
        return step.by + step.heads, pivoted(step, columns, sketches)
    return columns, kept(step, columns, sketches)


def sketches_of(steps, columns, sketches):
    """The columns and sketches of steps, one after another."""
    for step in steps:
        columns, sketches = made_by(step, columns, sketches)
    return columns, sketches

"""Sketches with fewer rows: some of their rows made one."""

from meltback.sketches import Sketch, made_same, with_rules


def both_told(row, other):
    """The row that has the cells of both."""
    return tuple([its if cell is None else cell for cell, its in zip(row, other)])


def with_rows_joined(sketch, at, its):
    """The sketch with the cells of both rows in the place of the first one."""
    rows = list(sketch.rows)
    rows[at] = both_told(rows[at], rows.pop(its))
    return Sketch(sketch.row, tuple(rows), sketch.many)


def with_one_row(sketch, at, its):
    """A list of the sketch with its row `its` made one with an earlier one; empty if told texts are unlike."""
    left = [sketch]
    for place in range(len(sketch.rows[at])):
        if left:
            cell, other = left[0].rows[at][place], left[0].rows[its][place]
            if cell is not None and other is not None:
                left = made_same(left[0], cell, other)
    return [with_rows_joined(one, at, its) for one in left]


def merged_to(sketch, many, ahead):
    """All ways to make the sketch's rows so many; those ahead are no more made one with each other."""
    if len(sketch.rows) <= many:
        return [sketch] if len(sketch.rows) == many else []
    made = merged_to(sketch, many, ahead + 1) if ahead < many else []
    for at in range(ahead):
        for one in with_one_row(sketch, at, ahead):
            made.extend(merged_to(one, many, ahead))
    return made


def first_parting(sketches, many, rules, parts):
    """The first of the sketches, with rows made so many and the rules kept, for which `parts` holds, or None."""
    for sketch in sketches:
        for merged in merged_to(sketch, many, 0):
            for one in with_rules(merged, rules):
                if parts(one):
                    return one
    return None


def fewest_parting(sketches, rules, parts):
    """The sketch with the fewest rows for which `parts` holds, of those led over from the sketches, or None.

    If `parts` holds for a sketch with rows made one, it has to hold for the sketch itself, too.
    """
    # Texts made the same without need, and unknowns that become told texts, only make less for `parts` to
    # hold for, so a table with the fewest rows is found by making rows one, and by nothing else.
    parting = [sketch for sketch in sketches if parts(sketch)]
    for many in range(1, max([len(sketch.rows) for sketch in parting], default=0) + 1):
        found = first_parting(parting, many, rules, parts)
        if found is not None:
            return found
    return None

"""Papers: they show that no script makes of what one script tells what another one tells."""

from meltback.leading import one_leads
from meltback.rows import cells_of, row_mapped
from meltback.shapes import free_texts, rules_placed, shape_of, shapes_apart, sketches_for, tells, unknown_texts
from meltback.sketches import Sketch, all_with_alike, beside, with_row, with_rules
from meltback.tables import Table
from meltback.words import is_text


def told_too(sketch, at, other, rules):
    """The sketch with the rows of another one, whose row has the cells from `at` on that are there."""
    end = len(sketch.row)
    pairs = [(at + place, end + place) for place in range(len(other.row)) if sketch.row[at + place] is not None]
    made = [one for both in all_with_alike([beside(sketch, other)], pairs) for one in with_rules(both, rules)]
    return [with_row(one, one.row[:end]) for one in made]


def all_told_too(started, rows, sketches, rules):
    """The sketches of the tables of which a script with these sketches tells the rows at the beginning of the row."""
    left = [started]
    at = 0
    for row in rows:
        left = [one for sketch in left for other in sketches for one in told_too(sketch, at, other, rules)]
        at = at + len(row)
    return left


def paper_of_met(p, q, kind, shape, rows):
    """A paper whose second table is one of which the first script tells the rows, mapped in some way; or None."""
    told = p.texts + q.texts
    cells = cells_of(rows)
    unknowns = unknown_texts(cells, told)
    numbers = {text: number for number, text in enumerate(unknowns)}
    started = Sketch(row_mapped(cells + shape.row, numbers), (), len(unknowns))
    others = sketches_for(q, kind)
    for sketch in all_told_too(started, rows, sketches_for(p, kind), rules_placed(kind)):
        if not one_leads(others, sketch.row[len(cells):], sketch.rows):
            made = shape_of(sketch, kind.columns, told)
            led = dict(zip(cells, made.row))
            return shape.table, made.table, shape.row, tuple([(text, led[text]) for text in unknowns])
    return None


def paper_of_rows(p, q, kind, shape, rows):
    """A paper whose first table is that of a shape of the second script, of which the first one tells rows; or None."""
    if not rows:
        return shape.table, Table(kind.columns), shape.row, ()
    told = p.texts + q.texts
    seen = cells_of(rows)
    unseen = [text for text in unknown_texts(shape.row, told) if text not in seen]
    if unseen:
        other = free_texts(1, told + shape.table.texts)[0]
        return shape.table, shape.table.mapped({unseen[0]: other}), shape.row, ()
    return paper_of_met(p, q, kind, shape, rows)


def rows_needed(p, q, kind, shape):
    """Some of what the first script tells of the table of a shape, of which no row can be left out without a paper."""
    left = p(shape.table).rows
    for row in list(left):
        rest = tuple([other for other in left if other != row])
        if paper_of_rows(p, q, kind, shape, rest) is None:
            left = rest
    return left


def first_paper(p, q, kind):
    """A paper that there is no way from the first script to the second one, or None."""
    for shape in shapes_apart(q, kind, p.texts):
        paper = paper_of_rows(p, q, kind, shape, p(shape.table).rows)
        if paper is not None:
            return paper
    return None


def is_tuple(value, width):
    """Whether a value is a tuple of so many things."""
    return isinstance(value, tuple) and len(value) == width


def are_pairs(value, told):
    """Whether a value is a tuple of pairs of texts, the first ones ascending, different and not told."""
    if not isinstance(value, tuple) or not all([is_tuple(pair, 2) for pair in value]):
        return False
    if not all([is_text(text) for pair in value for text in pair]):
        return False
    heads = [pair[0] for pair in value]
    return heads == unknown_texts(heads, told)


def is_right(p, q, kind, paper):
    """Whether a tuple of four things is a right paper."""
    first, second, row, pairs = paper
    if first not in kind or second not in kind or not are_pairs(pairs, p.texts + q.texts):
        return False
    if not isinstance(row, tuple) or not tells(q, first, row):
        return False
    texts = dict(pairs)
    return p(first).mapped(texts) <= p(second) and not tells(q, second, row_mapped(row, texts))

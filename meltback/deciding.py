"""What scripts tell of all tables of a kind at once."""

from meltback.errors import InvalidScript, Mismatch, NoStep
from meltback.leading import one_leads
from meltback.merging import fewest_parting
from meltback.shapes import first_of, need_columns, rules_placed, shape_of, sketches_for
from meltback.sketches import all_with_alike, beside, with_row, with_rules
from meltback.sketching import sketches_of, sketches_under
from meltback.steps import Pivot


def need_same_ends(p, q):
    """Raise an error unless both scripts have the same columns at the beginning and in the end."""
    if p.columns != q.columns or p.ends != q.ends:
        raise Mismatch()


def within(p, q, kind):
    """Whether the first script tells no more than the other one on all tables of the kind."""
    need_same_ends(p, q)
    others = sketches_for(q, kind)
    for sketch in sketches_for(p, kind):
        if not one_leads(others, sketch.row, sketch.rows):
            return False
    return True


def same(p, q, kind):
    """Whether both scripts tell the same on all tables of the kind."""
    return within(p, q, kind) and within(q, p, kind)


def lost(p, q, kind):
    """A table of the kind with the fewest rows, and a row that the first script tells of it alone; or None."""
    need_same_ends(p, q)
    others = sketches_for(q, kind)

    def parts(sketch):
        return not one_leads(others, sketch.row, sketch.rows)

    found = fewest_parting(sketches_for(p, kind), rules_placed(kind), parts)
    if found is None:
        return None
    shape = shape_of(found, kind.columns, p.texts + q.texts)
    return shape.table, shape.row


def is_needless(p, at, kind):
    """Whether the script without a step tells the same."""
    try:
        rest = p.without(at)
    except InvalidScript:
        return False
    return rest.ends == p.ends and same(p, rest, kind)


def needless(p, kind):
    """The numbers of the steps without which, each alone, the script tells the same."""
    need_columns(p, kind)
    return tuple([at for at in range(len(p)) if is_needless(p, at, kind)])


def steady(p, kind):
    """Whether the script done twice tells the same as done once."""
    return same(p >> p, p, kind)


def commuting(p, q, kind):
    """Whether both scripts, one behind the other, tell the same in both orders."""
    return same(p >> q, q >> p, kind)


def met_twice(step, columns, sketches):
    """The sketches of two values that a pivot meets for one head and the same cells of `by`."""
    width = len(step.by)
    pairs = [(at, width + 1 + at) for at in range(width)]
    met = []
    for head in step.heads:
        under = sketches_under(head, step, columns, sketches)
        both = [beside(sketch, other) for at, sketch in enumerate(under) for other in under[at:]]
        met.extend(all_with_alike(both, pairs))
    return [with_row(sketch, (sketch.row[width], sketch.row[-1])) for sketch in met]


def has_unlike_values(sketch):
    """Whether the two values of a sketch are not the same."""
    return sketch.row[0] != sketch.row[1]


def doubled(p, at, kind):
    """A table of the kind with the fewest rows on which a pivot meets two values for one head, or None."""
    need_columns(p, kind)
    if not isinstance(p[at], Pivot):
        raise NoStep(at)
    rules = rules_placed(kind)
    columns, sketches = sketches_of(p.steps[:at], kind.columns, first_of(kind))
    met = [one for sketch in met_twice(p[at], columns, sketches) for one in with_rules(sketch, rules)]
    found = fewest_parting(met, rules, has_unlike_values)
    return None if found is None else shape_of(found, kind.columns, p.texts).table


def never(p, kind):
    """Whether the script tells nothing of any table of the kind."""
    return len(sketches_for(p, kind)) == 0

"""Ways: what a script tells, made of what another one tells; and papers that there are none."""

from meltback.building import built
from meltback.deciding import same
from meltback.papers import first_paper, is_right, is_tuple, rows_needed
from meltback.scripts import Script
from meltback.shapes import need_columns, shapes_apart, tells
from meltback.steps import Pick
from meltback.tables import Table


def need_same_beginnings(p, q, kind):
    """Raise an error unless both scripts begin with the columns of the kind."""
    need_columns(p, kind)
    need_columns(q, kind)


def cases_needed(p, q, kind):
    """Rows that the first script tells of the tables of the second one's shapes, with the shapes' rows."""
    told = p.texts + q.texts
    left = list({(rows_needed(p, q, kind, shape), shape.row): True for shape in shapes_apart(q, kind, p.texts)})
    for case in list(left):
        rest = [other for other in left if other != case]
        # A script that tells the row without the case does so wherever it meets the case.
        if tells(built(rest, p.ends, q.ends, told), Table(p.ends, case[0]), case[1]):
            left = rest
    return left


def way(p, q, kind):
    """A script that makes of what the first script tells just what the second one tells, or None."""
    need_same_beginnings(p, q, kind)
    if len(p) == 0:
        return q
    if p.ends == q.ends and same(p, q, kind):
        return Script(p.ends)
    if first_paper(p, q, kind) is not None:
        return None
    return built(cases_needed(p, q, kind), p.ends, q.ends, p.texts + q.texts)


def no_way(p, q, kind):
    """A paper that no script makes of what the first script tells what the second one tells, or None."""
    need_same_beginnings(p, q, kind)
    return first_paper(p, q, kind)


def no_way_holds(p, q, kind, value):
    """Whether any value is a right paper."""
    need_same_beginnings(p, q, kind)
    return is_tuple(value, 4) and is_right(p, q, kind, value)


def sets_of(names):
    """All sets of at least one of the names, in their order, larger ones ahead of smaller ones."""
    found = [()]
    for name in names:
        found = [*found, *[(*some, name) for some in found]]
    return [some for many in range(len(names), 0, -1) for some in found if len(some) == many]


def kept(p, kind):
    """The greatest sets of columns that stay told together behind the script."""
    need_columns(p, kind)
    greatest = []
    for names in sets_of(kind.columns):
        is_new = not any([all([name in larger for name in names]) for larger in greatest])
        if is_new and first_paper(p, Script(kind.columns, [Pick(names)]), kind) is None:
            greatest.append(names)
    return tuple(sorted(set(greatest)))


def takes_back(p, r, kind):
    """Whether the second script takes back what the first one does."""
    return same(p >> r, Script(p.columns), kind)

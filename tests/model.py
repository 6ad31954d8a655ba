"""What scripts make of tables, found slowly: rows are dicts without the cells that lack."""

from itertools import product

from meltback.steps import Alike, Has, Is, Join, Melt, Pick, Pivot, Put, Rename, Stack
from meltback.tables import Table


def told(row, names):
    return all(name in row for name in names)


def only(row, names):
    return {name: row[name] for name in names if name in row}


def pick(step, columns, rows):
    return list(step.columns), [only(row, step.columns) for row in rows if only(row, step.columns)]


def rename(step, columns, rows):
    new = {name: name for name in columns}
    new[step.old] = step.new
    return [new[name] for name in columns], [{new[name]: row[name] for name in row} for row in rows]


def has(step, columns, rows):
    return columns, [row for row in rows if step.column in row]


def is_text(step, columns, rows):
    return columns, [row for row in rows if row.get(step.column) == step.text]


def put(step, columns, rows):
    return [*columns, step.column], [{**row, step.column: step.text} for row in rows]


def alike(step, columns, rows):
    return columns, [row for row in rows if told(row, [step.column, step.other]) and row[step.column] == row[step.other]]


def melt(step, columns, rows):
    rest = [name for name in columns if name not in step.columns]
    made = []
    for row in rows:
        for name in step.columns:
            if name in row:
                made.append({**only(row, rest), step.name: name, step.value: row[name]})
    return [*rest, step.name, step.value], made


def pivot(step, columns, rows):
    rows = [row for row in rows if told(row, [*step.by, step.name, step.value]) and row[step.name] in step.heads]
    made = []
    for cells in {tuple(row[name] for name in step.by) for row in rows}:
        its = [row for row in rows if tuple(row[name] for name in step.by) == cells]
        ways = [[row[step.value] for row in its if row[step.name] == head] or [None] for head in step.heads]
        for chosen in product(*ways):
            row = dict(zip([*step.by, *step.heads], [*cells, *chosen]))
            made.append({name: row[name] for name in row if row[name] is not None})
    return [*step.by, *step.heads], made


def join(step, columns, rows):
    its_columns, its_rows = run(step.steps, columns, rows)
    made = []
    for row in rows:
        partners = [
            its for its in its_rows
            if told(row, step.columns) and told(its, step.columns) and only(row, step.columns) == only(its, step.columns)
        ]
        made += [{**its, **row} for its in partners] or [row]
    return [*columns, *[name for name in its_columns if name not in step.columns]], made


def stack(step, columns, rows):
    its_columns, its_rows = run(step.steps, columns, rows)
    return columns, rows + its_rows


MAKING = {
    Pick: pick, Rename: rename, Has: has, Is: is_text, Put: put, Alike: alike, Melt: melt, Pivot: pivot, Join: join, Stack: stack,
}


def run(steps, columns, rows):
    for step in steps:
        columns, rows = MAKING[type(step)](step, columns, rows)
    return columns, rows


def model(script, table):
    """What the script makes of the table."""
    rows = [{name: cell for name, cell in zip(table.columns, row) if cell is not None} for row in table.rows]
    columns, made = run(script.steps, list(script.columns), rows)
    return Table(columns, [[row.get(name) for name in columns] for row in made])

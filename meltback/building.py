"""Building ways: steps that tell a row wherever they meet some rows, with any texts in the place of unknowns."""

from meltback.rows import cells_of
from meltback.scripts import Script
from meltback.shapes import unknown_texts
from meltback.steps import Alike, Has, Is, Join, Pick, Put, Rename, Stack
from meltback.words import LETTERS

# These two texts stand only in columns that a way puts for itself, so no others can be taken for them.
MARK = "a"
OTHER = "b"


def name_of_number(number):
    """A name for each number below 17576."""
    return "w" + LETTERS[number // 676] + LETTERS[number // 26 % 26] + LETTERS[number % 26]


def free_names(many, taken):
    """So many names that are not taken."""
    names = [name_of_number(number) for number in range(many + len(taken))]
    return [name for name in names if name not in taken][:many]


def lacking(names):
    """Steps that give each row these new columns, with nothing in them."""
    if not names:
        return []
    # The join's table never has a row, so all rows lack what they would get.
    return [Join((), [*[Put(name, MARK) for name in names], Is(names[0], OTHER), Pick(names)])]


def doubling(name, new):
    """A step that gives each row a new column with the same cell as another one that is there."""
    return Join((name,), [Pick((name,)), Join((), [Rename(name, new)]), Alike(name, new)])


def first_columns(row, columns, told):
    """The first column of each unknown of a row."""
    found = {}
    for name, cell in zip(columns, row):
        if cell is not None and cell not in told:
            found.setdefault(cell, name)
    return found


def keeping(row, columns, told):
    """Steps that keep the rows of which this one is a part, with other texts in the place of its unknowns."""
    first = first_columns(row, columns, told)
    steps = []
    for name, cell in zip(columns, row):
        if cell in told:
            steps.append(Is(name, cell))
        elif cell is not None and first[cell] == name:
            steps.append(Has(name))
        elif cell is not None:
            steps.append(Alike(first[cell], name))
    return steps


def marking(row, columns, told, mark):
    """A step that marks the rows of which this one is a part."""
    there = [name for name, cell in zip(columns, row) if cell is not None]
    return Join(there, [*keeping(row, columns, told), Put(mark, MARK), Pick((*there, mark))])


def renaming(first, named, held):
    """Steps that bring unknowns from their first columns to those that hold them."""
    # First to names of their own: a column that holds one may have the name of another's first column.
    moved = [text for text in first if held[text] != named[text]]
    return [*[Rename(first[text], named[text]) for text in first], *[Rename(named[text], held[text]) for text in moved]]


def meeting(row, columns, told, named, held, marks):
    """The steps of a join's table of the rows of which this one is a part, with marks."""
    first = first_columns(row, columns, told)
    marked = [Put(mark, MARK) for mark in marks]
    picked = Pick((*[first[text] for text in first], *marks))
    return [Pick(columns), *keeping(row, columns, told), *marked, picked, *renaming(first, named, held)]


def meeting_all(rows, columns, told, names):
    """The steps that meet all rows at once, and the column that holds each unknown then."""
    first = first_columns(rows[0], columns, told)
    if len(rows) == 1:
        return keeping(rows[0], columns, told), first
    marks = names[:len(rows)]
    named = dict(zip(unknown_texts(cells_of(rows), told), names[len(rows):]))
    held = {**named, **first}
    # A join leaves all rows there, so each later one still finds the whole table behind the marks.
    steps = [marking(rows[0], columns, told, marks[0])]
    for at in range(1, len(rows)):
        met = unknown_texts(cells_of(rows[:at]), told)
        shared = [held[text] for text in unknown_texts(rows[at], told) if text in met]
        its_steps = meeting(rows[at], columns, told, named, held, marks[at - 1:at + 1])
        steps.append(Join((marks[at - 1], *shared), its_steps))
    return [*steps, Has(marks[-1])], held


def telling(row, told, held, names):
    """The steps that make columns with these names, with a row's cells; the unknowns are held by columns."""
    steps = []
    laid = {}
    for name, cell in zip(names, row):
        if cell in told:
            steps.append(Put(name, cell))
        elif cell in laid:
            steps.append(doubling(laid[cell], name))
        elif cell is not None:
            steps.append(Rename(held[cell], name))
            laid[cell] = name
    return [*steps, *lacking([name for name, cell in zip(names, row) if cell is None]), Pick(names)]


def steps_for(case, columns, told, names, its_names):
    """The steps that tell the row of a case, in columns with these names, wherever they meet its rows."""
    rows, row = case
    steps, held = meeting_all(rows, columns, told, its_names)
    return [*steps, *telling(row, told, held, names)]


def steps_for_all(cases, columns, told, names, its_names):
    """The steps that do so for any number of cases."""
    if len(cases) == 1:
        return steps_for(cases[0], columns, told, names, its_names)
    # Until all cases are done, the rows that are told stand below those that are met, and lack their columns.
    steps = lacking(names)
    for case in cases:
        made = steps_for(case, columns, told, names, its_names)
        steps.append(Stack([Pick(columns), *made, *lacking(columns)]))
    return [*steps, Pick(names)]


def built(cases, columns, ends, told):
    """The script that tells just the row of each case, mapped in any way, wherever its rows are told, mapped likewise.

    A case is a pair of rows and a row; the texts that are told stand for themselves.
    """
    # A mark for each row, and at most one unknown for each of its cells.
    most = max([len(rows) for rows, row in cases], default=0) * (1 + len(columns))
    names = free_names(len(ends) + most, columns + ends)
    steps = steps_for_all(cases, columns, told, names[:len(ends)], names[len(ends):])
    return Script(columns, [*steps, *[Rename(name, end) for name, end in zip(names, ends)]])

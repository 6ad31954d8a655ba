"""The columns at each step of a script, and the steps that cannot be done with them."""

from meltback.errors import InvalidScript
from meltback.steps import Alike, Has, Is, Join, Melt, Pick, Pivot, Put, Rename, Stack


def columns_told(step):
    """The columns that a step tells and that have to be there."""
    if isinstance(step, (Pick, Melt, Join)):
        return step.columns
    if isinstance(step, Pivot):
        return (*step.by, step.name, step.value)
    if isinstance(step, Rename):
        return (step.old,)
    if isinstance(step, Alike):
        return (step.column, step.other)
    if isinstance(step, (Has, Is)):
        return (step.column,)
    return ()


def columns_that_stay(step, columns):
    """The columns that are there ahead of a step and behind it."""
    if isinstance(step, Pick):
        return step.columns
    if isinstance(step, Pivot):
        return step.by
    if isinstance(step, Melt):
        return tuple([name for name in columns if name not in step.columns])
    if isinstance(step, Rename):
        return tuple([name for name in columns if name != step.old])
    return columns


def columns_renamed(step, columns):
    """The columns with the new name in the place of the old one."""
    return tuple([step.new if name == step.old else name for name in columns])


def columns_gained(step, its_columns):
    """The columns that a join gets from its other table."""
    return tuple([name for name in its_columns if name not in step.columns])


def ends_within(at, step, columns):
    """The columns in the end of the steps of a join or a stack."""
    try:
        return ends_of(columns, step.steps)
    except InvalidScript:
        raise InvalidScript(at, "steps") from None


def columns_joined(at, step, columns):
    """The new columns of a join, if its steps can be done."""
    its_columns = ends_within(at, step, columns)
    if [name for name in step.columns if name not in its_columns]:
        raise InvalidScript(at, "steps")
    return columns_gained(step, its_columns)


def need_same_ends(at, step, columns):
    """Raise an error unless the steps of a stack end with its own columns, in any order."""
    if sorted(set(ends_within(at, step, columns))) != sorted(set(columns)):
        raise InvalidScript(at, "steps")


def columns_made(at, step, columns):
    """The new columns of a step, if steps within it can be done."""
    if isinstance(step, Rename):
        return (step.new,)
    if isinstance(step, Put):
        return (step.column,)
    if isinstance(step, Melt):
        return (step.name, step.value)
    if isinstance(step, Pivot):
        return step.heads
    if isinstance(step, Join):
        return columns_joined(at, step, columns)
    if isinstance(step, Stack):
        need_same_ends(at, step, columns)
    return ()


def are_new(names, staying):
    """Whether these names of columns are different, and unlike those that stay."""
    return len(set([*names, *staying])) == len(names) + len(staying)


def ends_of_step(at, step, columns):
    """The columns behind the step with this number; raises the first error there is in it."""
    told = columns_told(step)
    if [name for name in told if name not in columns] or len(set(told)) != len(told):
        raise InvalidScript(at, "column")
    made = columns_made(at, step, columns)
    staying = columns_that_stay(step, columns)
    if not are_new(made, staying):
        raise InvalidScript(at, "new")
    if isinstance(step, Rename):
        return columns_renamed(step, columns)
    return (*staying, *made)


def ends_of(columns, steps):
    """The columns in the end; raises an error for the first step that cannot be done."""
    for at, step in enumerate(steps):
        columns = ends_of_step(at, step, columns)
    return columns

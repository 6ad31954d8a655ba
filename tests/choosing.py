"""Scripts, tables and kinds by chance, the same ones in each run."""

from meltback.errors import InvalidScript, InvalidStep
from meltback.kinds import Kind
from meltback.scripts import Script
from meltback.steps import Alike, Has, Is, Join, Melt, Pick, Pivot, Put, Rename, Stack
from meltback.tables import Table

NAMES = ["a", "b", "c", "n", "v"]
TEXTS = ["a", "b", "x", "u0"]


def some_names(chosen, columns, least):
    """Some of the columns, and sometimes one that is not there."""
    names = chosen.sample(list(columns), chosen.randint(min(least, len(columns)), len(columns)))
    return names + ["z"] if chosen.random() < 0.02 else names


def some_step(chosen, columns, deep):
    """A step that can perhaps be done with these columns."""
    pick, name = chosen.choice, lambda: chosen.choice(NAMES)
    kind = pick([Pick, Rename, Has, Is, Put, Alike, Melt, Pivot, Pivot] + ([Join, Join, Stack] if deep else []))
    if kind is Pick:
        return Pick(some_names(chosen, columns, 1))
    if kind is Rename:
        return Rename(pick(columns), name())
    if kind is Has:
        return Has(pick(columns))
    if kind in (Is, Put):
        return kind(pick(columns) if kind is Is else name(), pick(TEXTS))
    if kind is Alike:
        return Alike(pick(columns), pick(columns))
    if kind is Melt:
        return Melt(some_names(chosen, columns, 1)[:3], name(), name())
    if kind is Pivot:
        by = some_names(chosen, columns, 0)[:2]
        return Pivot(by, pick(columns), pick(columns), chosen.sample(["a", "b", "c"], chosen.randint(1, 2)))
    steps = some_steps(chosen, columns, chosen.randint(0, 3), deep - 1)
    if kind is Join:
        return Join(chosen.sample(list(columns), chosen.randint(0, min(2, len(columns)))), steps)
    return Stack(steps)


def some_steps(chosen, columns, many, deep=2):
    """So many steps, or fewer, that can be done with these columns one after another."""
    steps = []
    for attempt in range(many * 6):
        ends = Script(columns, steps).ends
        try:
            step = some_step(chosen, ends, deep)
            if len(Script(columns, [*steps, step]).ends) <= 6:
                steps.append(step)
        except (InvalidScript, InvalidStep):
            pass
        if len(steps) == many:
            break
    return steps


def some_script(chosen, columns, longest):
    return Script(columns, some_steps(chosen, columns, chosen.randint(0, longest)))


def some_table(chosen, columns, longest, cells=(None, *TEXTS)):
    return Table(columns, [[chosen.choice(cells) for name in columns] for row in range(chosen.randint(0, longest))])


def some_kind(chosen, columns, most=2):
    rules = []
    for number in range(chosen.randint(0, most)):
        column = chosen.choice(columns)
        rest = [name for name in columns if name != column]
        rules.append((tuple(chosen.sample(rest, chosen.randint(0, min(2, len(rest))))), column))
    return Kind(columns, chosen.sample(list(columns), chosen.randint(0, len(columns))), rules)


def some_table_of(chosen, kind, longest):
    """A table of the kind: rows that are taken as long as the rules are kept."""
    table = Table(kind.columns)
    for number in range(longest):
        row = [chosen.choice(TEXTS if name in kind.always else [None, *TEXTS]) for name in kind.columns]
        more = table | Table(kind.columns, [row])
        if more in kind:
            table = more
    return table

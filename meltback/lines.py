"""Reading the lines of texts of steps."""

from meltback.errors import InvalidStep, InvalidText
from meltback.steps import Alike, Has, Is, Join, Melt, Pick, Pivot, Put, Rename, Stack
from meltback.words import are_names


def melt_of_words(told):
    """The melt with these words behind its first one, or None."""
    if told[-3:-2] != ["as"]:
        return None
    return Melt(told[:-3], told[-2], told[-1])


def pivot_of_words(told):
    """The pivot with these words behind its first one, or None."""
    if "by" not in told:
        return None
    at = told.index("by")
    if told[at + 3:at + 4] != ["to"]:
        return None
    return Pivot(told[:at], told[at + 1], told[at + 2], told[at + 4:])


def step_of_pair(word, one, other):
    """The step with two words behind its first one, or None."""
    if word == "rename":
        return Rename(one, other)
    if word == "is":
        return Is(one, other)
    if word == "put":
        return Put(one, other)
    if word == "alike":
        return Alike(one, other)
    return None


def step_of_words(word, told):
    """The step of the words of a line, or None; its errors are those of steps."""
    if word == "pick":
        return Pick(told)
    if word == "melt":
        return melt_of_words(told)
    if word == "pivot":
        return pivot_of_words(told)
    if word == "has" and len(told) == 1:
        return Has(told[0])
    if len(told) == 2:
        return step_of_pair(word, told[0], told[1])
    return None


def step_of_line(line, at):
    """The step of a line, which has no steps within it."""
    words = line.split(" ")
    try:
        step = step_of_words(words[0], words[1:])
    except InvalidStep:
        raise InvalidText(at) from None
    if step is None:
        raise InvalidText(at)
    return step


def begins_join(line):
    """Whether a line is the first one of a join."""
    words = line.split(" ")
    return words[0] == "join" and are_names(words[1:], 0)


def begun(line, steps):
    """The join or stack that begins with a line and has these steps."""
    if line == "stack":
        return Stack(steps)
    return Join(line.split(" ")[1:], steps)


def steps_of_lines(lines):
    """The steps of the lines of a text."""
    # A list of steps for each line that is not ended yet, behind the list of all.
    waiting = []
    found = [[]]
    for at, line in enumerate(lines):
        if line == "stack" or begins_join(line):
            waiting.append(line)
            found.append([])
        elif line == "end" and waiting:
            steps = found.pop()
            found[-1].append(begun(waiting.pop(), steps))
        else:
            found[-1].append(step_of_line(line, at))
    if waiting:
        raise InvalidText(len(lines))
    return found[0]


def steps_of_text(text):
    """The steps of a text; an empty one has none."""
    if text == "":
        return []
    return steps_of_lines(text.split("\n"))

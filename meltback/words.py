"""What sequences, names, texts and cells are, asked of any value."""

LETTERS = "abcdefghijklmnopqrstuvwxyz"
LETTERS_AND_DIGITS = "abcdefghijklmnopqrstuvwxyz0123456789"
LONGEST_NAME = 4
LONGEST_TEXT = 6

# These words part the texts of steps, so no column has them as its name.
PARTING_WORDS = ("as", "by", "to", "end")


def is_sequence(value):
    """Whether a value is a list or a tuple."""
    return isinstance(value, (list, tuple))


def is_word(value, signs, longest):
    """Whether a value is a string of these signs, neither empty nor too long."""
    if not isinstance(value, str) or not 1 <= len(value) <= longest:
        return False
    # strip stops at the first other sign, so it leaves nothing only if there is none.
    return value.strip(signs) == ""


def is_name(value):
    """Whether a value can be the name of a column."""
    return is_word(value, LETTERS, LONGEST_NAME) and value not in PARTING_WORDS


def is_text(value):
    """Whether a value is a text."""
    return is_word(value, LETTERS_AND_DIGITS, LONGEST_TEXT)


def is_cell(value):
    """Whether a value is a text, or None for a cell that lacks."""
    return value is None or is_text(value)


def are_names(value, least):
    """Whether a value is a sequence of different names, at least so many."""
    if not is_sequence(value) or len(value) < least:
        return False
    return all([is_name(name) for name in value]) and len(set(value)) == len(value)

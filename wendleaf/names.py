"""Names: what tables, snapshots and rows are called, and what numbers they have."""

from wendleaf.numerals import is_within

NAME_SIGNS = "abcdefghijklmnopqrstuvwxyz0123456789"
MOST_IN_NAME = 6
MOST_IN_ROWNAME = 12
TABLE = "t."
SNAPSHOT = "s."
# The least low of a branch: it is less than every row name.
LEAST = "."
GREATEST_IN_ROW = 10 ** 9
MOST_WIDTH = 2
MOST_IN_TABLE = 400


def is_name(thing):
    """Whether the thing is the name of a table or a snapshot."""
    return _has_signs(thing, MOST_IN_NAME)


def is_rowname(thing):
    """Whether the thing is the name of a row."""
    return _has_signs(thing, MOST_IN_ROWNAME)


def is_source(thing):
    """Whether the thing is the source that a table or a snapshot stands under in the book."""
    if not isinstance(thing, str) or not (thing.startswith(TABLE) or thing.startswith(SNAPSHOT)):
        return False
    return is_name(thing[len(TABLE):])


def is_numbers(thing, width):
    """Whether the thing is the numbers of a row of this width."""
    if not isinstance(thing, tuple) or len(thing) != width:
        return False
    return all(is_within(number, -GREATEST_IN_ROW, GREATEST_IN_ROW) for number in thing)


def is_width(thing):
    """Whether the thing is how many numbers the rows of a table have."""
    return is_within(thing, 1, MOST_WIDTH)


def is_most(thing):
    """Whether the thing is how many rows a table may have."""
    return is_within(thing, 0, MOST_IN_TABLE)


def _has_signs(thing, most):
    """Whether the thing is a text of 1 to `most` letters and figures."""
    if not isinstance(thing, str) or not 1 <= len(thing) <= most:
        return False
    return all(sign in NAME_SIGNS for sign in thing)

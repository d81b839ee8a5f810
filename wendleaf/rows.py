"""Keys, values, rows and ranges: what a page holds."""

from wendleaf.errors import BadRows, TooMany
from wendleaf.numerals import GREATEST, is_within

KEY_SIGNS = "abcdefghijklmnopqrstuvwxyz0123456789."
MOST_SIGNS = 12
MOST_NUMBERS = 4
MOST_ROWS = 12


def is_key(thing):
    """Whether the thing is a key."""
    if not isinstance(thing, str) or not 1 <= len(thing) <= MOST_SIGNS:
        return False
    return all(sign in KEY_SIGNS for sign in thing)


def is_value(thing):
    """Whether the thing is a value."""
    if not isinstance(thing, tuple) or not 1 <= len(thing) <= MOST_NUMBERS:
        return False
    return all(is_within(number, -GREATEST, GREATEST) for number in thing)


def is_row(thing):
    """Whether the thing is a row: a pair of a key and a value."""
    return isinstance(thing, tuple) and len(thing) == 2 and is_key(thing[0]) and is_value(thing[1])


def is_rows(thing):
    """Whether the thing is rows."""
    return isinstance(thing, tuple) and len(thing) <= MOST_ROWS and _first_bad(thing) is None


def made_rows(thing):
    """Rows equal to the thing."""
    if not isinstance(thing, tuple):
        raise BadRows(-1)
    if len(thing) > MOST_ROWS:
        raise TooMany(len(thing))
    bad = _first_bad(thing)
    if bad is not None:
        raise BadRows(bad)
    return tuple([(key, value) for key, value in thing])


def at(rows, key):
    """The value at the key, or None."""
    for other, value in rows:
        if other == key:
            return value
    return None


def in_range(key, low, high):
    """Whether the key lies in the range; None stands for no bound."""
    return (low is None or low <= key) and (high is None or key < high)


def between(rows, low, high):
    """The rows in the range."""
    return tuple([row for row in rows if in_range(row[0], low, high)])


def with_row(rows, key, value):
    """The rows with the value at the key, or without the key if the value is None."""
    others = [row for row in rows if row[0] != key]
    if value is None:
        return tuple(others)
    if len(others) >= MOST_ROWS:
        raise TooMany(len(others) + 1)
    return tuple(sorted(others + [(key, value)]))


def _first_bad(things):
    """The index of the first thing that is not a row or not above the one ahead of it, or None."""
    for index, thing in enumerate(things):
        if not is_row(thing):
            return index
        if index > 0 and not things[index - 1][0] < thing[0]:
            return index
    return None

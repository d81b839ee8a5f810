"""Doing deeds and undoing them."""

from wendleaf.deeds import inverse, reads_of
from wendleaf.errors import Unfit
from wendleaf.numerals import GREATEST
from wendleaf.rows import MOST_ROWS, at, between, in_range, with_row


def done(deed, rows, look):
    """The rows of the deed's page after the deed."""
    after = _after(deed, rows, look)
    if after is None:
        raise Unfit(deed)
    return after


def back(deed, rows, look):
    """The rows of the deed's page before the deed."""
    before = _after(inverse(deed), rows, look)
    if before is None:
        raise Unfit(deed)
    return before


def fits(deed, rows, look):
    """Whether the deed can be done on the rows."""
    return _after(deed, rows, look) is not None


def _after(deed, rows, look):
    """The rows after the deed, or None if it cannot be done on the rows."""
    word = deed[0]
    if word == "put":
        return _put(rows, deed[2], deed[3], deed[4])
    if word == "bump":
        return _bumped(rows, deed[2], deed[3], deed[4])
    if word == "rename":
        return _renamed(rows, deed[2], deed[3])
    if word == "carry":
        return deed[3] if rows == deed[2] else None
    read = look(reads_of(deed)[0])
    if word == "take":
        return _taken(rows, read, deed[3], deed[4])
    if word == "drop":
        return _dropped(rows, read, deed[3], deed[4])
    amount = _added(deed, read) if word == "add" else _tallied(deed, read)
    if amount is None:
        return None
    return _bumped(rows, deed[2], deed[3], deed[-1] * amount)


def _put(rows, key, before, after):
    if at(rows, key) != before:
        return None
    if before is None and len(rows) >= MOST_ROWS:
        return None
    return with_row(rows, key, after)


def _bumped(rows, key, index, by):
    """The rows with the number at the index of the key's value grown, or None."""
    value = at(rows, key)
    if value is None or len(value) <= index:
        return None
    number = value[index] + by
    if abs(number) > GREATEST:
        return None
    return with_row(rows, key, value[:index] + (number,) + value[index + 1:])


def _renamed(rows, old, new):
    value = at(rows, old)
    if value is None or at(rows, new) is not None:
        return None
    return with_row(with_row(rows, old, None), new, value)


def _taken(rows, read, low, high):
    taken = between(read, low, high)
    if len(between(rows, low, high)) > 0 or len(rows) + len(taken) > MOST_ROWS:
        return None
    return tuple(sorted(rows + taken))


def _dropped(rows, read, low, high):
    if between(rows, low, high) != between(read, low, high):
        return None
    return tuple([row for row in rows if not in_range(row[0], low, high)])


def _added(deed, read):
    """The number that an add reads, or None."""
    other, index = deed[5], deed[6]
    value = at(read, other)
    if value is None or len(value) <= index:
        return None
    return value[index]


def _tallied(deed, read):
    """The sum of the numbers that a tally reads, or None if one is missing."""
    low, high, index = deed[5], deed[6], deed[7]
    values = [row[1] for row in between(read, low, high)]
    if any([len(value) <= index for value in values]):
        return None
    return sum([value[index] for value in values])

"""Counts and sums over ranges of rows: what lies in a range as a whole is told by the branch above it."""

from wendleaf.errors import BadNumber
from wendleaf.leaves import leaf_sums
from wendleaf.numerals import is_number, is_within
from wendleaf.rows import between
from wendleaf.trees import check_stretch, row_of_source


def count(look, source, low, high):
    """How many rows there are with low <= name < high."""
    row = row_of_source(look, source)
    check_stretch(low, high)
    return _sums_of_source(look, row, low, high)[0]


def total(look, source, i, low, high):
    """The sum of the numbers i of the rows with low <= name < high."""
    row = row_of_source(look, source)
    if not is_within(i, 0, row[2] - 1):
        raise BadNumber(i)
    check_stretch(low, high)
    return _sums_of_source(look, row, low, high)[i + 1]


def nth(look, source, k):
    """The name of the row with k rows ahead of it."""
    page, height, _, _ = row_of_source(look, source)
    if not is_number(k) or k < 0:
        raise BadNumber(k)
    place = k
    for _ in range(height):
        page, place = _child_at(look(page), place)
        if page is None:
            raise BadNumber(k)
    rows = look(page)
    if place >= len(rows):
        raise BadNumber(k)
    return rows[place][0]


def added(parts):
    """The sum of several triples of a count, a first sum and a second sum."""
    return tuple([sum([part[place] for part in parts]) for place in range(3)])


def _child_at(rows, place):
    """The child of the branch that has the row at the place, and its place there; or None twice."""
    for _, (child, many, _, _) in rows:
        if place < many:
            return child, place
        place = place - many
    return None, None


def _sums_of_source(look, row, low, high):
    """The count and the sums of the rows in the range, by the source's row of the book."""
    page, height, width, _ = row
    return _sums_within(look, (page, height, width), (low, high), None)


def _sums_within(look, tree, stretch, bound):
    """The count and the sums of the rows in the range beneath a page; all of its names are below the bound."""
    page, height, width = tree
    low, high = stretch
    rows = look(page)
    if height == 0:
        return leaf_sums(between(rows, low, high), width)
    ends = [other for other, _ in rows[1:]] + [bound]
    parts = []
    for (first, value), end in zip(rows, ends):
        if _is_inside(first, end, stretch):
            parts.append(value[1:])
        elif not _is_apart(first, end, stretch):
            parts.append(_sums_within(look, (value[0], height - 1, width), stretch, end))
    return added(parts)


def _is_inside(first, end, stretch):
    """Whether all names from the first to the end lie in the range; None stands for no end."""
    low, high = stretch
    if low is not None and first < low:
        return False
    return high is None or (end is not None and end <= high)


def _is_apart(first, end, stretch):
    """Whether none of these names lies in the range."""
    low, high = stretch
    if low is not None and end is not None and end <= low:
        return True
    return high is not None and first >= high

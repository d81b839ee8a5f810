"""Branches: the pages whose rows name other pages."""

from wendleaf.names import LEAST, is_rowname
from wendleaf.rows import MOST_NUMBERS


def is_branch_rows(rows):
    """Whether the rows have the shape of a branch."""
    return len(rows) > 0 and all(_is_branch_row(key, value) for key, value in rows)


def row_of_way(rows, name):
    """The index of the last row whose low is not greater than the name, or -1."""
    return len([low for low, _ in rows if low <= name]) - 1


def _is_branch_row(key, value):
    return (key == LEAST or is_rowname(key)) and len(value) == MOST_NUMBERS

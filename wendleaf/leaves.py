"""Leaves: the pages that have the rows of tables and snapshots."""

from wendleaf.names import is_numbers, is_rowname


def is_leaf_rows(rows, width):
    """Whether all keys are row names and all values numbers of the width."""
    return all(is_rowname(key) and is_numbers(value, width) for key, value in rows)


def leaf_sums(rows, width):
    """How many rows there are, the sum of their first numbers and that of their second ones (0 if the width is 1)."""
    first = sum([value[0] for _, value in rows])
    second = sum([value[1] for _, value in rows]) if width == 2 else 0
    return len(rows), first, second

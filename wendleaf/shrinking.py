"""Plans for rows that are dropped: emptied pages go, small ones are joined, and the root is lowered."""

from wendleaf.growing import carry_up, leaf_of, own_way
from wendleaf.rows import at
from wendleaf.trees import BOOK, references, row_of_source, way

# Two pages are joined if they have at most this many rows together.
MOST_JOINED = 8


def drop_row(draft, source, name):
    """Plans that the row is gone."""
    look = draft.look()
    own_way(draft, source, name)
    leaf = leaf_of(look, source, name)
    numbers = at(look(leaf), name)
    draft.plan(("put", leaf, name, numbers, None))
    carry_up(draft, source, name, (-1,) + tuple([-number for number in numbers]))
    steps = way(look, source, name)
    for depth in range(len(steps) - 1, 0, -1):
        page, low = steps[depth]
        if len(look(page)) == 0:
            _remove_child(draft, steps[depth - 1][0], low, len(steps) - 1 - depth)
        else:
            _join_child(draft, steps[depth - 1][0], low)
    _lower_root(draft, source)


def _remove_child(draft, branch, low, height):
    """Plans that the branch no longer names the child at the low, which is empty and has this height."""
    look = draft.look()
    was_first = look(branch)[0][0] == low
    draft.plan(("put", branch, low, at(look(branch), low), None))
    if was_first and len(look(branch)) > 0:
        _rename_first(draft, branch, low)
        _pass_low_on(draft, branch, low, height)


def _pass_low_on(draft, branch, low, height):
    """Plans that the first child of the branch has its low too, and so on down to the leaf."""
    look = draft.look()
    for _ in range(height):
        key, value = look(branch)[0]
        branch = draft.owned(value[0], branch, key)
        _rename_first(draft, branch, low)


def _rename_first(draft, branch, low):
    look = draft.look()
    draft.plan(("rename", branch, look(branch)[0][0], low))


def _join_child(draft, branch, low):
    """Plans that the child at the low is joined with the next one, or else with the one ahead of it, if they can be."""
    look = draft.look()
    rows = look(branch)
    place = [key for key, _ in rows].index(low)
    for left in (place, place - 1):
        if 0 <= left < len(rows) - 1 and _can_join(look, rows[left][1][0], rows[left + 1][1][0]):
            _join(draft, branch, rows[left], rows[left + 1])
            return


def _can_join(look, left, right):
    return len(look(left)) + len(look(right)) <= MOST_JOINED and references(look)[left] == 1


def _join(draft, branch, left, right):
    """Plans that the child of the right row moves into that of the left one."""
    low, (page, _, _, _) = left
    middle, value = right
    draft.plan(("take", page, value[0], middle, None))
    # Another source may still need the rows where they are.
    if references(draft.look())[value[0]] == 1:
        draft.plan(("drop", value[0], page, middle, None))
    for place in (1, 2, 3):
        if value[place] != 0:
            draft.plan(("bump", branch, low, place, value[place]))
    draft.plan(("put", branch, middle, value, None))


def _lower_root(draft, source):
    """Plans that a branch with fewer than two rows is no root."""
    look = draft.look()
    row = row_of_source(look, source)
    while row[1] > 0 and len(look(row[0])) < 2:
        _replace_root(draft, source, row)
        row = row_of_source(look, source)


def _replace_root(draft, source, row):
    """Plans that the root's only child is the root, or that a root without children is a leaf."""
    look = draft.look()
    root, height, width, most = row
    rows = look(root)
    if len(rows) == 0:
        draft.plan(("put", BOOK, source, row, (root, 0, width, most)))
        return
    low, value = rows[0]
    draft.plan(("put", BOOK, source, row, (value[0], height - 1, width, most)))
    if references(look)[root] == 0:
        draft.plan(("put", root, low, value, None))

"""Plans for rows that are put: owning their way, making room for them, and carrying their change up."""

from wendleaf.branches import row_of_way
from wendleaf.names import LEAST
from wendleaf.rows import MOST_ROWS, at
from wendleaf.trees import BOOK, row_of_source, way

# A full leaf is parted ahead of its seventh row.
HALF = 6


def leaf_of(look, source, name):
    """The leaf at which the way of the name ends."""
    leaf, _ = way(look, source, name)[-1]
    return leaf


def own_way(draft, source, name):
    """Plans that no other source reaches the pages on the way of the name."""
    look = draft.look()
    page, height, _, _ = row_of_source(look, source)
    page = draft.owned(page, BOOK, source)
    for _ in range(height):
        rows = look(page)
        low, value = rows[row_of_way(rows, name)]
        page = draft.owned(value[0], page, low)


def carry_up(draft, source, name, change):
    """Plans that the branches on the way tell the change: of the count, the first sum and the second one."""
    steps = way(draft.look(), source, name)
    for (branch, _), (_, low) in zip(steps, steps[1:]):
        for place, by in enumerate(change, start=1):
            if by != 0:
                draft.plan(("bump", branch, low, place, by))


def put_row(draft, source, name, numbers):
    """Plans that the row has these numbers, which are other ones than it has."""
    look = draft.look()
    own_way(draft, source, name)
    before = at(look(leaf_of(look, source, name)), name)
    if before is None and len(look(leaf_of(look, source, name))) == MOST_ROWS:
        _make_room(draft, source, name)
    draft.plan(("put", leaf_of(look, source, name), name, before, numbers))
    carry_up(draft, source, name, _change(before, numbers))


def _change(before, numbers):
    """The change of the count and of the sums; before a new row there are no numbers."""
    if before is None:
        return (1,) + numbers
    return (0,) + tuple([now - then for then, now in zip(before, numbers)])


def _make_room(draft, source, name):
    """Plans that the leaf on the way of the name, and each full page right above it, is parted."""
    look = draft.look()
    run = []
    for page, _ in reversed(way(look, source, name)):
        if len(look(page)) < MOST_ROWS:
            break
        run.append(page)
    if row_of_source(look, source)[0] in run:
        _raise_root(draft, source)
    for page in reversed(run):
        _part(draft, source, name, page)


def _raise_root(draft, source):
    """Plans a new root above the old one."""
    row = row_of_source(draft.look(), source)
    root, height, width, most = row
    above = draft.fresh()
    draft.plan(("put", above, LEAST, None, (root, MOST_ROWS if height == 0 else 0, 0, 0)))
    _weigh(draft, (above, LEAST), (root, height, width), 1)
    draft.plan(("put", BOOK, source, row, (above, height + 1, width, most)))


def _part(draft, source, name, page):
    """Plans that the second half of a full page moves to a fresh one."""
    look = draft.look()
    steps = way(look, source, name)
    depth = [step[0] for step in steps].index(page)
    parent, low = steps[depth - 1][0], steps[depth][1]
    _, height, width, _ = row_of_source(look, source)
    middle = look(page)[HALF][0]
    fresh = draft.fresh()
    is_leaf = depth == height
    tree = (fresh, height - depth, width)
    draft.plan(("take", fresh, page, middle, None))
    draft.plan(("drop", page, fresh, middle, None))
    draft.plan(("put", parent, middle, None, (fresh, HALF if is_leaf else 0, 0, 0)))
    _weigh(draft, (parent, middle), tree, 1)
    if is_leaf:
        draft.plan(("bump", parent, low, 1, -HALF))
    _weigh(draft, (parent, low), tree, -1)


def _weigh(draft, place, tree, sign):
    """Plans that the sums of the tree, and its count if it is a branch, are added to a branch's row."""
    branch, low = place
    child, height, width = tree
    if height > 0:
        draft.plan(("tally", branch, low, 1, child, None, None, 1, sign))
    first = 0 if height == 0 else 2
    for index in range(width):
        draft.plan(("tally", branch, low, 2 + index, child, None, None, first + index, sign))

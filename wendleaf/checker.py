"""The checker: what is wrong with a view, and what a sound one means."""

from wendleaf.branches import is_branch_rows
from wendleaf.leaves import is_leaf_rows, leaf_sums
from wendleaf.names import LEAST, TABLE, is_most, is_source, is_width
from wendleaf.numerals import PAGES, is_within
from wendleaf.rows import MOST_NUMBERS, in_range, is_rows
from wendleaf.sums import added
from wendleaf.trees import BOOK, walk

MOST_HEIGHT = 4


def faults(view):
    """The faults of the first phase that has any."""
    for phase in (_rows_phase, _book_phase, _level_phase, _form_phase, _low_phase, _sum_phase, _left_phase):
        found = phase(view)
        if len(found) > 0:
            return tuple(sorted(set(found)))
    return ()


def sound(view):
    """Whether the view has no faults."""
    return len(faults(view)) == 0


def meaning(view):
    """For each source its width, its most and all of its rows."""
    def look(page):
        return view[page]

    return tuple([(source, value[2], value[3], walk(look, source, None, None)) for source, value in view[BOOK]])


def _rows_phase(view):
    if not isinstance(view, tuple) or len(view) != PAGES:
        return [("rows", -1)]
    return [("rows", page) for page, rows in enumerate(view) if not is_rows(rows)]


def _book_phase(view):
    return [("book", key) for key, value in view[BOOK] if not is_source(key) or not _is_book_value(value)]


def _is_book_value(value):
    if len(value) != MOST_NUMBERS:
        return False
    root, height, width, most = value
    return _is_tree_page(root) and is_within(height, 0, MOST_HEIGHT) and is_width(width) and is_most(most)


def _is_tree_page(page):
    """Whether a row may name this page."""
    return is_within(page, BOOK + 1, PAGES - 1)


def _meetings(view):
    """All meetings, depth first: the page, its height, its width, and whether it is a child of a branch."""
    waiting = [(value[0], value[1], value[2], False) for _, value in reversed(view[BOOK])]
    entered = {}
    meetings = []
    while len(waiting) > 0:
        meeting = waiting.pop()
        meetings.append(meeting)
        page, height, width, _ = meeting
        if page not in entered:
            entered[page] = True
            if height > 0 and is_branch_rows(view[page]):
                children = [value[0] for _, value in reversed(view[page])]
                waiting.extend([(child, height - 1, width, True) for child in children if _is_tree_page(child)])
    return meetings


def _level_phase(view):
    first = {}
    found = []
    for page, height, width, _ in _meetings(view):
        if first.setdefault(page, (height, width)) != (height, width):
            found.append(("level", page))
    return found


def _form_phase(view):
    return [("form", meeting[0]) for meeting in _meetings(view) if not _has_form(view, meeting)]


def _has_form(view, meeting):
    """Whether the page that is met has the form of a leaf or a branch."""
    page, height, width, is_child = meeting
    rows = view[page]
    if height > 0:
        return is_branch_rows(rows) and all(_is_tree_page(value[0]) for _, value in rows)
    return is_leaf_rows(rows, width) and not (is_child and len(rows) == 0)


def _low_phase(view):
    found = []
    # A step is a page with its height, its own low and the bound below which its names are.
    waiting = [(value[0], value[1], LEAST, None) for _, value in view[BOOK] if value[1] > 0]
    done = {}
    while len(waiting) > 0:
        step = waiting.pop()
        if step not in done:
            done[step] = True
            page, height, low, bound = step
            found.extend(_low_faults(view[page], step))
            if height > 0:
                waiting.extend(_steps_below(view[page], height, bound))
    return found


def _low_faults(rows, step):
    """The faults of one page on one way."""
    page, height, low, bound = step
    if height == 0:
        return [("low", page, key) for key, _ in rows if not in_range(key, low, bound)]
    first = rows[0][0]
    return [("low", page, first)] if first != low else []


def _steps_below(rows, height, bound):
    """The steps to the children of a branch."""
    lows = [low for low, _ in rows]
    steps = []
    for (low, value), end in zip(rows, lows[1:] + [bound]):
        steps.append((value[0], height - 1, low, end))
    return steps


def _sum_phase(view):
    meetings = _meetings(view)
    sums = _sums(view, meetings)
    found = []
    for page, height, _, _ in meetings:
        if height > 0:
            found.extend([("sum", page, low) for low, value in view[page] if value[1:] != sums[value[0]]])
    for source, value in view[BOOK]:
        if source.startswith(TABLE) and sums[value[0]][0] > value[3]:
            found.append(("most", source))
    return found


def _sums(view, meetings):
    """For each page that is met the count and the sums of the leaves beneath it."""
    sums = {}
    for level in range(MOST_HEIGHT + 1):
        for page, height, width, _ in meetings:
            if height == level == 0:
                sums[page] = leaf_sums(view[page], width)
            elif height == level:
                sums[page] = added([sums[value[0]] for _, value in view[page]])
    return sums


def _left_phase(view):
    met = [page for page, _, _, _ in _meetings(view)]
    return [("left", page) for page in range(BOOK + 1, PAGES) if page not in met and len(view[page]) > 0]

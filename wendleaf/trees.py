"""Trees of pages: the book, the ways to rows, which pages are named how often, and the rows themselves."""

from wendleaf.branches import row_of_way
from wendleaf.errors import BadStretch, NoTable
from wendleaf.names import is_rowname
from wendleaf.numerals import PAGES
from wendleaf.rows import at, between

BOOK = 0


def table_row(look, source):
    """The root, the height, the width and the most of the source, or None if there is no such source."""
    return at(look(BOOK), source)


def way(look, source, name):
    """The pages on the way of the name, each with the low under which the branch above names it."""
    page, height, _, _ = row_of_source(look, source)
    steps = [(page, None)]
    for _ in range(height):
        rows = look(page)
        low, value = rows[row_of_way(rows, name)]
        page = value[0]
        steps.append((page, low))
    return tuple(steps)


def references(look):
    """How many references each page has."""
    many = [0] * PAGES
    for _, value in look(BOOK):
        many[value[0]] += 1
    for page, height in reached_by(look, look(BOOK)).items():
        if height > 0:
            for _, value in look(page):
                many[value[0]] += 1
    return tuple(many)


def free_pages(look):
    """The pages without a reference, ascending."""
    many = references(look)
    return tuple([page for page in range(BOOK + 1, PAGES) if many[page] == 0])


def get(look, source, name):
    """The numbers of the row, or None."""
    if not is_rowname(name):
        row_of_source(look, source)
        return None
    leaf, _ = way(look, source, name)[-1]
    return at(look(leaf), name)


def walk(look, source, low, high):
    """The rows with low <= name < high."""
    page, height, _, _ = row_of_source(look, source)
    check_stretch(low, high)
    return tuple(_rows_beneath(look, page, height, low, high))


def own_pages(look, source):
    """The pages that this source reaches and no other one, ascending."""
    row_of_source(look, source)
    others = reached_by(look, [row for row in look(BOOK) if row[0] != source])
    return tuple([page for page in _pages_of(look, source) if page not in others])


def shared(look, one, two):
    """The pages that both sources reach, ascending."""
    row_of_source(look, one)
    row_of_source(look, two)
    others = _pages_of(look, two)
    return tuple([page for page in _pages_of(look, one) if page in others])


def row_of_source(look, source):
    """The root, the height, the width and the most of a source that there is."""
    row = table_row(look, source)
    if row is None:
        raise NoTable(source)
    return row


def check_stretch(low, high):
    """Refuses bounds that are neither None nor row names."""
    for index, bound in enumerate((low, high)):
        if bound is not None and not is_rowname(bound):
            raise BadStretch(index)


def reached_by(look, rows):
    """For each page that the sources with these rows of the book reach, its height."""
    heights = {}
    waiting = [(value[0], value[1]) for _, value in rows]
    while len(waiting) > 0:
        page, height = waiting.pop()
        if page not in heights:
            heights[page] = height
            if height > 0:
                waiting.extend([(value[0], height - 1) for _, value in look(page)])
    return heights


def _pages_of(look, source):
    """The pages that the source reaches, ascending."""
    return sorted(reached_by(look, [(source, table_row(look, source))]))


def _rows_beneath(look, page, height, low, high):
    """The rows in the range that the leaves beneath the page have."""
    if height == 0:
        return list(between(look(page), low, high))
    rows = []
    for _, value in look(page):
        rows.extend(_rows_beneath(look, value[0], height - 1, low, high))
    return rows

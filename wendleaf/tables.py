"""Store deeds, and the page deeds by which they are carried out."""

from wendleaf.drafts import Draft
from wendleaf.errors import BadNumber, BadStoreDeed, BadWidth, BookFull, Known, NoName, OverLimit, TooGreat
from wendleaf.growing import carry_up, leaf_of, own_way, put_row
from wendleaf.names import GREATEST_IN_ROW, MOST_WIDTH, SNAPSHOT, TABLE
from wendleaf.names import is_most, is_name, is_numbers, is_rowname, is_source, is_width
from wendleaf.numerals import is_within
from wendleaf.rows import MOST_ROWS
from wendleaf.shrinking import drop_row
from wendleaf.sums import count
from wendleaf.trees import BOOK, free_pages, get, row_of_source, table_row, walk

# What the items 1, 2, .. of a store deed are. A "bound" is a row name or None.
KINDS = {
    "make": ("name", "width", "most"),
    "end": ("name",),
    "call": ("name", "name"),
    "snap": ("name", "name"),
    "clone": ("name", "name"),
    "fade": ("name",),
    "put": ("name", "rowname", "numbers"),
    "drop": ("name", "rowname"),
    "rename": ("name", "rowname", "rowname"),
    "shift": ("name", "rowname", "index", "by"),
    "post": ("name", "rowname", "index", "source", "rowname", "index", "sign"),
    "clear": ("name", "bound", "bound"),
}


def made_storedeed(thing):
    """A store deed equal to the thing."""
    bad = _first_bad(thing)
    if bad is not None:
        raise BadStoreDeed(bad)
    return tuple(list(thing))


def is_storedeed(thing):
    """Whether the thing is a store deed."""
    return _first_bad(thing) is None


def planned(view, deeds, kept, manner):
    """The page deeds by which the store deeds are carried out, one behind the other."""
    draft = Draft(view, kept, manner)
    for deed in deeds:
        plan_deed = PLANS[deed[0]]
        plan_deed(draft, deed)
    return draft.deeds()


def kinds_of_storedeed(word):
    """The kinds of the items behind the word, or None if no store deed begins with it."""
    return KINDS.get(word)


def _first_bad(thing):
    """The index of the first item that keeps the thing from being a store deed, or None."""
    if not isinstance(thing, tuple) or len(thing) == 0 or not isinstance(thing[0], str):
        return 0
    kinds = kinds_of_storedeed(thing[0])
    if kinds is None or len(thing) != len(kinds) + 1:
        return 0
    for index, kind in enumerate(kinds, start=1):
        if not _has_kind(thing[index], kind):
            return index
    if thing[0] == "clear" and thing[2] is not None and thing[3] is not None and not thing[2] < thing[3]:
        return 3
    return None


def _has_kind(part, kind):
    """Whether the part of a store deed is of the kind."""
    if kind == "name":
        return is_name(part)
    if kind == "rowname":
        return is_rowname(part)
    if kind == "bound":
        return part is None or is_rowname(part)
    if kind == "source":
        return is_source(part)
    if kind == "numbers":
        return is_numbers(part, 1) or is_numbers(part, 2)
    if kind == "width":
        return is_width(part)
    if kind == "most":
        return is_most(part)
    if kind == "index":
        return is_within(part, 0, MOST_WIDTH - 1)
    if kind == "by":
        return is_within(part, -2 * GREATEST_IN_ROW, 2 * GREATEST_IN_ROW)
    return is_within(part, -1, 1) and part != 0


def _make(draft, deed):
    _, table, width, most = deed
    _check_new(draft, TABLE + table)
    draft.plan(("put", BOOK, TABLE + table, None, (draft.fresh(), 0, width, most)))


def _end(draft, deed):
    _remove_source(draft, TABLE + deed[1])


def _fade(draft, deed):
    _remove_source(draft, SNAPSHOT + deed[1])


def _call(draft, deed):
    _, old, new = deed
    row_of_source(draft.look(), TABLE + old)
    _check_unknown(draft, TABLE + new)
    draft.plan(("rename", BOOK, TABLE + old, TABLE + new))


def _snap(draft, deed):
    _, table, snapshot = deed
    _copy_source(draft, TABLE + table, SNAPSHOT + snapshot)


def _clone(draft, deed):
    _, snapshot, table = deed
    _copy_source(draft, SNAPSHOT + snapshot, TABLE + table)


def _put(draft, deed):
    _, table, name, numbers = deed
    look = draft.look()
    source = TABLE + table
    _, _, width, most = row_of_source(look, source)
    if len(numbers) != width:
        raise BadWidth(width)
    before = get(look, source, name)
    if before == numbers:
        return
    if before is None and count(look, source, None, None) >= most:
        raise OverLimit(most)
    put_row(draft, source, name, numbers)


def _drop(draft, deed):
    _, table, name = deed
    _numbers_of(draft, TABLE + table, name)
    drop_row(draft, TABLE + table, name)


def _rename(draft, deed):
    _, table, old, new = deed
    look = draft.look()
    source = TABLE + table
    numbers = _numbers_of(draft, source, old)
    if get(look, source, new) is not None:
        raise Known(new)
    if leaf_of(look, source, old) == leaf_of(look, source, new):
        own_way(draft, source, old)
        draft.plan(("rename", leaf_of(look, source, old), old, new))
    else:
        drop_row(draft, source, old)
        put_row(draft, source, new, numbers)


def _shift(draft, deed):
    _, table, name, i, by = deed
    source = TABLE + table
    numbers = _numbers_of(draft, source, name)
    _check_index(i, numbers)
    if by != 0:
        _check_greatness(numbers[i] + by)
        own_way(draft, source, name)
        draft.plan(("bump", leaf_of(draft.look(), source, name), name, i, by))
        carry_up(draft, source, name, _change_at(i, by))


def _post(draft, deed):
    _, table, name, i, other_source, other, j, sign = deed
    source = TABLE + table
    row_of_source(draft.look(), source)
    row_of_source(draft.look(), other_source)
    numbers = _numbers_of(draft, source, name)
    others = _numbers_of(draft, other_source, other)
    _check_index(i, numbers)
    _check_index(j, others)
    by = sign * others[j]
    if by == 0:
        return
    _check_greatness(numbers[i] + by)
    own_way(draft, source, name)
    leaf = leaf_of(draft.look(), source, name)
    other_leaf = leaf_of(draft.look(), other_source, other)
    if leaf == other_leaf:
        draft.plan(("bump", leaf, name, i, by))
    else:
        draft.plan(("add", leaf, name, i, other_leaf, other, j, sign))
    carry_up(draft, source, name, _change_at(i, by))


def _clear(draft, deed):
    _, table, low, high = deed
    rows = walk(draft.look(), TABLE + table, low, high)
    for name, _ in rows:
        drop_row(draft, TABLE + table, name)


def _check_unknown(draft, source):
    if table_row(draft.look(), source) is not None:
        raise Known(source)


def _check_new(draft, source):
    """Refuses a source that the book has already, or has no room for."""
    _check_unknown(draft, source)
    look = draft.look()
    if len(look(BOOK)) >= MOST_ROWS:
        raise BookFull(MOST_ROWS)


def _check_index(index, numbers):
    if index >= len(numbers):
        raise BadNumber(index)


def _check_greatness(number):
    if abs(number) > GREATEST_IN_ROW:
        raise TooGreat(number)


def _numbers_of(draft, source, name):
    """The numbers of a row that there is."""
    numbers = get(draft.look(), source, name)
    if numbers is None:
        raise NoName(name)
    return numbers


def _change_at(index, by):
    """The change of the count and of the sums if the numbers at the index change."""
    return (0, by, 0) if index == 0 else (0, 0, by)


def _copy_source(draft, old, new):
    """Plans that a new source has the rows of the old one."""
    row = row_of_source(draft.look(), old)
    _check_new(draft, new)
    draft.plan(("put", BOOK, new, None, row))


def _remove_source(draft, source):
    """Plans that the source is gone, and the rows of the pages that it alone had."""
    look = draft.look()
    draft.plan(("put", BOOK, source, row_of_source(look, source), None))
    for page in free_pages(look):
        if len(look(page)) > 0:
            draft.plan(("carry", page, look(page), ()))


PLANS = {
    "make": _make,
    "end": _end,
    "call": _call,
    "snap": _snap,
    "clone": _clone,
    "fade": _fade,
    "put": _put,
    "drop": _drop,
    "rename": _rename,
    "shift": _shift,
    "post": _post,
    "clear": _clear,
}

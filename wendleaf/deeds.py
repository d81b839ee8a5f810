"""Deeds: the eight words, what stands behind each of them, and how a deed is turned round."""

from wendleaf.errors import BadDeed
from wendleaf.numerals import GREATEST, is_page, is_within
from wendleaf.rows import MOST_NUMBERS, is_key, is_rows, is_value

# What the items 1, 2, .. of a deed are. A "bound" is a key or None, a "cell" a value or None.
KINDS = {
    "put": ("page", "key", "cell", "cell"),
    "bump": ("page", "key", "index", "by"),
    "rename": ("page", "key", "key"),
    "take": ("page", "page", "bound", "bound"),
    "drop": ("page", "page", "bound", "bound"),
    "add": ("page", "key", "index", "page", "key", "index", "sign"),
    "tally": ("page", "key", "index", "page", "bound", "bound", "index", "sign"),
    "carry": ("page", "rows", "rows"),
}
# The pairs of items that can clash: the index of the earlier one and that of the later one.
PAIRS = {
    "put": ((3, 4),),
    "bump": (),
    "rename": ((2, 3),),
    "take": ((1, 2), (3, 4)),
    "drop": ((1, 2), (3, 4)),
    "add": ((1, 4),),
    "tally": ((1, 4), (5, 6)),
    "carry": ((2, 3),),
}


def kinds_of(word):
    """The kinds of the items behind the word, or None if no deed begins with it."""
    return KINDS.get(word)


def is_deed(thing):
    """Whether the thing is a deed."""
    return _first_bad(thing) is None


def made_deed(thing):
    """A deed equal to the thing."""
    bad = _first_bad(thing)
    if bad is not None:
        raise BadDeed(bad)
    return tuple(list(thing))


def page_of(deed):
    """The page that the deed changes."""
    return deed[1]


def reads_of(deed):
    """The pages that the deed reads: none or one."""
    if deed[0] in ("take", "drop"):
        return (deed[2],)
    if deed[0] in ("add", "tally"):
        return (deed[4],)
    return ()


def inverse(deed):
    """The deed that undoes the deed."""
    word = deed[0]
    if word == "take":
        return ("drop",) + deed[1:]
    if word == "drop":
        return ("take",) + deed[1:]
    if word in ("put", "rename", "carry"):
        return deed[:-2] + (deed[-1], deed[-2])
    return deed[:-1] + (-deed[-1],)


def _first_bad(thing):
    """The index of the first item that keeps the thing from being a deed, or None."""
    if not isinstance(thing, tuple) or len(thing) == 0 or not isinstance(thing[0], str):
        return 0
    kinds = kinds_of(thing[0])
    if kinds is None or len(thing) != len(kinds) + 1:
        return 0
    for index, kind in enumerate(kinds, start=1):
        if not _has_kind(thing[index], kind) or _clashes(thing, index, kind):
            return index
    return None


def _has_kind(part, kind):
    """Whether the part of a deed is of the kind by itself."""
    if kind == "page":
        return is_page(part)
    if kind == "key":
        return is_key(part)
    if kind == "bound":
        return part is None or is_key(part)
    if kind == "cell":
        return part is None or is_value(part)
    if kind == "rows":
        return is_rows(part)
    if kind == "index":
        return is_within(part, 0, MOST_NUMBERS - 1)
    most = 2 * GREATEST if kind == "by" else 1
    return is_within(part, -most, most) and part != 0


def _clashes(thing, index, kind):
    """Whether the item clashes with an earlier one; all earlier ones are of the right form."""
    for earlier, later in PAIRS[thing[0]]:
        if later == index and _unfit_pair(thing[earlier], thing[later], kind):
            return True
    return False


def _unfit_pair(first, second, kind):
    """Whether bounds stand in the wrong order, or other parts are alike."""
    if kind == "bound":
        return first is not None and second is not None and not first < second
    return first == second

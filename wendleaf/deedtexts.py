"""Deeds as lines of text."""

from wendleaf.deeds import is_deed, kinds_of
from wendleaf.errors import BadText
from wendleaf.numerals import numbers_text, read_number, read_numbers

NOTHING = "-"
NO_ROWS = "."


def deed_text(deed):
    """The deed as one line, without a line end."""
    parts = [deed[0]]
    for kind, part in zip(kinds_of(deed[0]), deed[1:]):
        parts.append(_part_text(kind, part))
    return " ".join(parts)


def read_deed(text):
    """The deed whose text it is."""
    parts = text.split(" ")
    kinds = kinds_of(parts[0])
    if kinds is None:
        raise BadText(0)
    items = [parts[0]]
    for kind, part in zip(kinds, parts[1:]):
        items.append(_read_part(kind, part))
    deed = tuple(items)
    # The parts are read without care: a text that is written otherwise than its deed is refused here.
    if not is_deed(deed) or deed_text(deed) != text:
        raise BadText(0)
    return deed


def _part_text(kind, part):
    if part is None:
        return NOTHING
    if kind == "cell":
        return numbers_text(part)
    if kind == "rows":
        return _rows_text(part)
    return str(part)


def _rows_text(rows):
    if len(rows) == 0:
        return NO_ROWS
    return ";".join([key + "=" + numbers_text(value) for key, value in rows])


def _read_part(kind, text):
    """The item of a deed that the text may stand for; it may turn out not to be of the kind."""
    if text == NOTHING:
        return None
    if kind in ("key", "bound"):
        return text
    if kind == "cell":
        return read_numbers(text)
    if kind == "rows":
        return _read_rows(text)
    return read_number(text)


def _read_rows(text):
    if text == NO_ROWS:
        return ()
    pairs = [part.partition("=") for part in text.split(";")]
    return tuple([(key, read_numbers(numbers)) for key, _, numbers in pairs])

"""Texts of store deeds and of whole stores."""

from wendleaf.checker import meaning
from wendleaf.errors import BadText
from wendleaf.names import NAME_SIGNS, SNAPSHOT, TABLE, is_most, is_numbers, is_rowname, is_source, is_width
from wendleaf.numerals import numbers_text, read_number, read_numbers
from wendleaf.rows import MOST_ROWS
from wendleaf.tables import is_storedeed, kinds_of_storedeed

NOTHING = "-"


def storedeed_text(deed):
    """The store deed as one line, without a line end."""
    return " ".join([_part_text(part) for part in deed])


def read_storedeed(text):
    """The store deed whose text it is."""
    parts = text.split(" ")
    kinds = kinds_of_storedeed(parts[0])
    if kinds is None:
        raise BadText(0)
    items = [parts[0]]
    for kind, part in zip(kinds, parts[1:]):
        items.append(_read_part(kind, part))
    deed = tuple(items)
    # The parts are read without care: a text that is written otherwise than its store deed is refused here.
    if not is_storedeed(deed) or storedeed_text(deed) != text:
        raise BadText(0)
    return deed


def store_text(view):
    """The text of what the view means."""
    lines = []
    for source, width, most, rows in meaning(view):
        lines.append(f"{source} {width} {most}\n")
        lines.extend([f"{name} {numbers_text(numbers)}\n" for name, numbers in rows])
    return "".join(lines)


def read_store(text):
    """The store deeds that lead from the blank view to one of which this is the text."""
    lines = text.split("\n")
    rest = lines.pop()
    # Each source is a tuple of its text, its width, its most and the list of its rows.
    sources = []
    for index, line in enumerate(lines):
        if not _take_line(sources, line.split(" ")):
            raise BadText(index)
    if rest != "":
        raise BadText(len(lines))
    deeds = []
    helper = _helper_name([source for source, _, _, _ in sources])
    for source in sources:
        deeds.extend(_deeds_of_source(source, helper))
    return tuple(deeds)


def _part_text(part):
    if part is None:
        return NOTHING
    if isinstance(part, tuple):
        return numbers_text(part)
    return str(part)


def _read_part(kind, text):
    """The item of a store deed that the text may stand for; it may turn out not to be of the kind."""
    if kind in ("name", "rowname", "source"):
        return text
    if kind == "bound":
        return None if text == NOTHING else text
    if kind == "numbers":
        return read_numbers(text)
    return read_number(text)


def _take_line(sources, parts):
    """Whether the line of these parts may stand behind the sources; if so, they have it then."""
    if len(parts) == 3:
        return _take_source(sources, parts)
    return len(parts) == 2 and len(sources) > 0 and _take_row(sources[-1], parts)


def _take_source(sources, parts):
    source, width, most = parts[0], read_number(parts[1]), read_number(parts[2])
    if not is_source(source) or not is_width(width) or not is_most(most) or len(sources) >= MOST_ROWS:
        return False
    if len(sources) > 0 and not sources[-1][0] < source:
        return False
    sources.append((source, width, most, []))
    return True


def _take_row(source, parts):
    _, width, most, rows = source
    name, numbers = parts[0], read_numbers(parts[1])
    if not is_rowname(name) or not is_numbers(numbers, width) or len(rows) >= most:
        return False
    if len(rows) > 0 and not rows[-1][0] < name:
        return False
    rows.append((name, numbers))
    return True


def _helper_name(sources):
    """The least name of one sign that no table among the sources has."""
    return min([sign for sign in NAME_SIGNS if TABLE + sign not in sources])


def _deeds_of_source(source, helper):
    """The store deeds that make the source; a snapshot is made of a table that has the helper's name meanwhile."""
    key, width, most, rows = source
    name = key[len(TABLE):]
    table = helper if key.startswith(SNAPSHOT) else name
    deeds = [("make", table, width, most)]
    deeds.extend([("put", table, row, numbers) for row, numbers in rows])
    if key.startswith(SNAPSHOT):
        deeds.extend([("snap", table, name), ("end", table)])
    return deeds

"""The entries of the log, and their lines."""

from wendleaf.deeds import is_deed, made_deed
from wendleaf.deedtexts import deed_text, read_deed
from wendleaf.errors import BadEntry, BadText
from wendleaf.frames import sum_of
from wendleaf.numerals import GREATEST, PAGES, is_within, numbers_text, read_number, read_numbers

MARKS = ("begin", "deed", "back", "end", "head")


def is_entry(thing):
    """Whether the thing is an entry."""
    return _first_bad(thing) is None


def made_entry(thing):
    """An entry equal to the thing."""
    bad = _first_bad(thing)
    if bad is not None:
        raise BadEntry(bad)
    number, mark, part = thing
    if mark == "deed":
        return number, mark, made_deed(part)
    if mark == "back":
        return number, mark, (part[0], made_deed(part[1]))
    if mark == "head":
        return number, mark, tuple(list(part))
    return number, mark, None


def entry_line(entry):
    """The line of the entry, with its line end."""
    number, mark, part = entry
    ahead = f"{number} {mark}"
    if part is not None:
        ahead = f"{ahead} {_part_text(mark, part)}"
    return f"{ahead} {sum_of(ahead)}\n"


def read_line(line):
    """The entry whose line it is."""
    parts = line.split(" ")
    if len(parts) < 3:
        raise BadText(0)
    entry = (read_number(parts[0]), parts[1], _read_part(parts[1], parts[2:-1]))
    # The parts are read without care: a line that is written otherwise than its entry is refused here.
    if not is_entry(entry) or entry_line(entry) != line:
        raise BadText(0)
    return entry


def _first_bad(thing):
    """The index of the first item that keeps the thing from being an entry, or None."""
    if not isinstance(thing, tuple) or len(thing) != 3:
        return 0
    number, mark, part = thing
    if not is_within(number, 0 if mark == "head" else 1, GREATEST):
        return 0
    if mark not in MARKS:
        return 1
    return None if _fits_mark(number, mark, part) else 2


def _fits_mark(number, mark, part):
    """Whether the part is what an entry with this number and this mark is about."""
    if mark == "deed":
        return is_deed(part)
    if mark == "back":
        if not isinstance(part, tuple) or len(part) != 2:
            return False
        return is_within(part[0], 1, number - 1) and is_deed(part[1])
    if mark == "head":
        if not isinstance(part, tuple) or len(part) != PAGES:
            return False
        return all(is_within(newest, 0, number) for newest in part)
    return part is None


def _part_text(mark, part):
    if mark == "head":
        return numbers_text(part)
    if mark == "back":
        return f"{part[0]} {deed_text(part[1])}"
    return deed_text(part)


def _read_part(mark, words):
    """What an entry with this mark is about, as far as the words tell; it may turn out not to fit the mark."""
    if mark == "deed":
        return read_deed(" ".join(words))
    if mark == "back" and len(words) > 0:
        return read_number(words[0]), read_deed(" ".join(words[1:]))
    if mark == "head":
        return read_numbers(" ".join(words))
    return None

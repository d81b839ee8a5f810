"""Frames: the text of one page on the disk, and the sum that guards it."""

from wendleaf.errors import BadText
from wendleaf.numerals import FIGURES, GREATEST, is_page, is_within, numbers_text, read_number, read_numbers
from wendleaf.rows import MOST_ROWS, is_row

# A prime above 65,000: no single replaced sign of a frame leaves the sum as it was.
MODULUS = 65521
SUM_FIGURES = 6
# Sums are below the modulus, so the first of the six figures is 0; no row has a number that begins so.
SUM_BEGINNING = "sum 0"
SUM_LENGTH = 10


def sum_of(text):
    """The sum of the text, as six figures."""
    total = sum([place * ord(sign) for place, sign in enumerate(text, start=1)])
    return str(total % MODULUS).zfill(SUM_FIGURES)


def frame_text(page, number, rows):
    """The frame of the page with this number and these rows."""
    lines = [f"page {page} {number}\n"]
    for key, value in rows:
        lines.append(f"{key} {numbers_text(value)}\n")
    ahead = "".join(lines)
    return f"{ahead}sum {sum_of(ahead)}\n"


def read_frame(text):
    """The page, the number and the rows of which the text is the frame."""
    lines = text.split("\n")
    rest = lines.pop()
    first = None
    if len(lines) > 0:
        first = _read_page_line(lines[0])
    if first is None:
        raise BadText(0)
    page, number = first
    rows = []
    for index in range(1, len(lines)):
        if is_sum_line(lines[index]):
            _check_end(lines, rest, index)
            return page, number, tuple(rows)
        row = _read_row(lines[index])
        if row is None or not _may_follow(rows, row):
            raise BadText(index)
        rows.append(row)
    raise BadText(len(lines))


def is_sum_line(line):
    """Whether the line has the form of a sum's line, right or wrong."""
    if len(line) != SUM_LENGTH or not line.startswith(SUM_BEGINNING):
        return False
    return all(sign in FIGURES for sign in line[len(SUM_BEGINNING):])


def _read_page_line(line):
    """The page and the number of a frame's first line, or None."""
    parts = line.split(" ")
    if len(parts) != 3 or parts[0] != "page":
        return None
    page = read_number(parts[1])
    number = read_number(parts[2])
    if not is_page(page) or not is_within(number, 0, GREATEST):
        return None
    return page, number


def _read_row(line):
    """The row that is written in the line, or None."""
    parts = line.split(" ")
    if len(parts) != 2:
        return None
    row = (parts[0], read_numbers(parts[1]))
    return row if is_row(row) else None


def _may_follow(rows, row):
    """Whether the row may stand behind the rows."""
    if len(rows) == 0:
        return True
    return len(rows) < MOST_ROWS and rows[-1][0] < row[0]


def _check_end(lines, rest, index):
    """Refuses a sum's line with a wrong sum, and signs behind it."""
    ahead = "".join([line + "\n" for line in lines[:index]])
    if lines[index] != "sum " + sum_of(ahead):
        raise BadText(index)
    if len(lines) > index + 1 or rest != "":
        raise BadText(index + 1)

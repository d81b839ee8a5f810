"""The model of a disk: what survives a crash, and the five writes that change it."""

from wendleaf.errors import BadNumber, BadPage, BadPlace, BadText, Fallen
from wendleaf.numerals import is_number, is_page, is_within, read_number


class Disk:
    """Frames, a tape with its safe signs, and a shelf; it may fall after a given number of writes."""

    def __init__(self, fuse=None):
        if fuse is not None and (not is_number(fuse) or fuse < 0):
            raise BadNumber(fuse)
        self._fuse = fuse
        self._frames = {}
        self._tape = ""
        self._safe = 0
        self._shelf = ""
        self._writes = 0

    def frame(self, page):
        """The page's frame, or None if it has none."""
        _check_page(page)
        return self._frames.get(page)

    def frame_ids(self):
        """The pages that have a frame, ascending."""
        return tuple(sorted(self._frames))

    def tape(self):
        """The tape."""
        return self._tape

    def safe(self):
        """How many of the tape's first signs are safe."""
        return self._safe

    def shelf(self):
        """The shelf."""
        return self._shelf

    def writes(self):
        """How many writes this disk has done."""
        return self._writes

    def put_frame(self, page, text):
        """Makes the text the frame of the page."""
        _check_page(page)
        self._count_write()
        self._frames[page] = text

    def add_tape(self, text):
        """Adds the text at the end of the tape; the new signs are not safe."""
        self._count_write()
        self._tape = self._tape + text

    def sync(self):
        """Makes all signs of the tape safe."""
        self._count_write()
        self._safe = len(self._tape)

    def put_shelf(self, text):
        """Replaces the shelf's text."""
        self._count_write()
        self._shelf = text

    def cut_tape(self, text):
        """Replaces the tape by the text, all of which is safe."""
        self._count_write()
        self._tape = text
        self._safe = len(text)

    def fell(self, keep, fuse=None):
        """The disk that is there after a crash that leaves `keep` of the signs that are not safe."""
        if not is_within(keep, 0, len(self._tape) - self._safe):
            raise BadNumber(keep)
        left = self._tape[:self._safe + keep]
        return _disk_with(self._frames, left, len(left), self._shelf, fuse)

    def spoil_frame(self, page, place, sign):
        """Replaces one sign of the page's frame; this is damage and no write."""
        if not is_page(page) or page not in self._frames:
            raise BadPage(page)
        self._frames[page] = _spoilt(self._frames[page], place, sign)

    def spoil_tape(self, place, sign):
        """Replaces one sign of the tape; this is damage and no write."""
        self._tape = _spoilt(self._tape, place, sign)

    def _count_write(self):
        """Counts a write; it is the last thing that can be refused ahead of the write itself."""
        if self._fuse is not None and self._writes >= self._fuse:
            raise Fallen(self._fuse)
        self._writes = self._writes + 1


def disk_text(disk):
    """The text of the disk."""
    pages = disk.frame_ids()
    parts = [f"disk {len(pages)}\n"]
    for page in pages:
        frame = disk.frame(page)
        parts.append(f"frame {page} {len(frame)}\n{frame}\n")
    tape = disk.tape()
    shelf = disk.shelf()
    parts.append(f"tape {disk.safe()} {len(tape)}\n{tape}\n")
    parts.append(f"shelf {len(shelf)}\n{shelf}\n")
    return "".join(parts)


def read_disk(text, fuse=None):
    """A new disk of which this is the text."""
    contents = _read_contents(text)
    if contents is None:
        raise BadText(0)
    frames, tape, safe, shelf = contents
    # The parts are read without care: a text that is written otherwise than its disk is refused here.
    if disk_text(_disk_with(frames, tape, safe, shelf, None)) != text:
        raise BadText(0)
    return _disk_with(frames, tape, safe, shelf, fuse)


def _check_page(page):
    if not is_page(page):
        raise BadPage(page)


def _disk_with(frames, tape, safe, shelf, fuse):
    """A new disk with these contents, which has done no writes."""
    disk = Disk(fuse)
    disk._frames = dict(frames)
    disk._tape = tape
    disk._safe = safe
    disk._shelf = shelf
    return disk


def _spoilt(text, place, sign):
    """The text with the sign at the place."""
    if not is_within(place, 0, len(text) - 1):
        raise BadPlace(place)
    return text[:place] + sign + text[place + 1:]


def _read_contents(text):
    """The frames, the tape, the number of its safe signs and the shelf that the text tells of, or None."""
    numbers, start = _read_line(text, 0, "disk", 1)
    if numbers is None:
        return None
    frames = {}
    for _ in range(numbers[0]):
        numbers, body, start = _read_block(text, start, "frame", 2)
        if numbers is None or not is_page(numbers[0]):
            return None
        frames[numbers[0]] = body
    numbers, tape, start = _read_block(text, start, "tape", 2)
    if numbers is None or numbers[0] > len(tape):
        return None
    safe = numbers[0]
    numbers, shelf, _ = _read_block(text, start, "shelf", 1)
    if numbers is None:
        return None
    return frames, tape, safe, shelf


def _read_block(text, start, word, many):
    """The numbers of the line at the start, the signs of which the last one tells, and where the next line starts.

    All three are None if there is no such line.
    """
    numbers, body = _read_line(text, start, word, many)
    if numbers is None:
        return None, None, None
    end = body + numbers[-1]
    return numbers, text[body:end], end + 1


def _read_line(text, start, word, many):
    """The numbers behind the word in the line at the start, and where the line behind it starts; or None twice."""
    end = text.find("\n", start)
    if end < 0:
        return None, None
    parts = text[start:end].split(" ")
    numbers = [read_number(part) for part in parts[1:]]
    if parts[0] != word or len(numbers) != many:
        return None, None
    # A negative length would lead the reading backward, without an end.
    if any([number is None or number < 0 for number in numbers]):
        return None, None
    return numbers, end + 1

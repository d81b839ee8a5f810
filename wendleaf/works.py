"""Works: an opened disk, the deeds that are done on it, and what is written when."""

from wendleaf.bare import MOST_DEEDS
from wendleaf.deedrun import done
from wendleaf.deeds import made_deed, page_of
from wendleaf.errors import BadPage, Full, NotOpen, NotYet, Open
from wendleaf.frames import frame_text
from wendleaf.knots import knots, may_write
from wendleaf.logread import bare_of, deeds_of, image_at, live_of, newest, numbers_at
from wendleaf.logread import roll_text, state_behind, state_of, works_of
from wendleaf.logs import entry_line
from wendleaf.losers import backs_of
from wendleaf.numerals import is_page
from wendleaf.writer import shelf_text

MOST_ENTRIES = 1700


class Work:
    """An opened disk: its log, the rows of its pages, and which pages are still to be written."""

    def __init__(self, disk, room, roll, rows):
        """The disk holds the roll and a frame with these rows for each page that was ever written."""
        self._disk = disk
        self._room = room
        self._roll = roll
        self._rows = list(rows)
        self._state = state_of(roll)
        self._pending = ()
        self._dirty = []
        self._frames = list(numbers_at(roll, roll[-1][0]))

    def page(self, page):
        """The page's rows behind all entries."""
        _check_page(page)
        return self._rows[page]

    def number(self, page):
        """The page's newest number."""
        return newest(self._roll, page)

    def roll(self):
        """The roll."""
        return self._roll

    def pending(self):
        """The entries that are not on the tape yet."""
        return self._pending

    def kept(self):
        """The deeds of the deed entries."""
        return tuple([deed for _, deed in deeds_of(self._roll)])

    def live(self):
        """The live deeds with their numbers, or None if no work is open."""
        return live_of(self._roll)

    def dirty(self):
        """The dirty pages, the eldest first."""
        return tuple(self._dirty)

    def image(self):
        """The version of each page whose frame is on the disk."""
        return image_at(self._roll, self._frames)

    def begin(self):
        """Starts a work, and returns the number of its begin entry."""
        begun = self._begun()
        if begun is not None:
            raise Open(begun)
        if len(self._roll) >= MOST_ENTRIES:
            raise Full(MOST_ENTRIES)
        return self._append("begin", None)

    def do(self, deed):
        """Does the deed, and returns the number of its entry."""
        deed = made_deed(deed)
        if self._begun() is None:
            raise NotOpen(0)
        rows = self._rows_after(deed)
        _, _, live, many = self._state
        # The log must have room for undoing this deed and all that are live.
        if many + 1 + len(live) + 1 > MOST_DEEDS:
            raise Full(MOST_DEEDS)
        self._make_room(page_of(deed))
        number = self._append("deed", deed)
        self._change(page_of(deed), rows)
        return number

    def end(self):
        """Ends the open work, and returns the number of its end entry."""
        if self._begun() is None:
            raise NotOpen(0)
        return self._append("end", None)

    def give_up(self):
        """Undoes the open work and ends it."""
        if self._begun() is None:
            raise NotOpen(0)
        backs = backs_of(self._roll)
        for number, deed in backs:
            self._append("back", (number, deed))
            self._change(page_of(deed), self._rows_after(deed))
        self._append("end", None)

    def flush_log(self):
        """Writes the pending entries to the tape."""
        if len(self._pending) > 0:
            self._disk.add_tape("".join([entry_line(entry) for entry in self._pending]))
            self._pending = ()

    def sync_log(self):
        """Writes the pending entries to the tape and makes all of it safe."""
        self.flush_log()
        if self._disk.safe() < len(self._disk.tape()):
            self._disk.sync()

    def may_go(self, page):
        """Whether the disk can be led to the end of the log after the page is written by itself."""
        _check_page(page)
        return page not in self._dirty or may_write(bare_of(self._roll), self.image(), (page,))

    def write(self, page):
        """Writes the page by itself."""
        if not self.may_go(page):
            raise NotYet(page)
        self._write_pages((page,))

    def write_knot(self, page):
        """Writes the page's knot as a whole."""
        _check_page(page)
        for knot in knots(bare_of(self._roll)):
            if page in knot:
                self._write_pages(knot)

    def write_all(self):
        """Writes all pages, knot by knot."""
        for knot in knots(bare_of(self._roll)):
            self._write_pages(knot)

    def checkpoint(self):
        """Writes all pages and cuts off what the log no longer needs."""
        self.write_all()
        self.cut_head()

    def cut_head(self):
        """Cuts off the oldest part of the log, and returns the number of the head."""
        first = self._first_unwritten()
        ends = [number for number in works_of(self._roll) if number < first]
        if len(ends) > 0:
            self._cut_at(ends[-1])
        return self._roll[0][0]

    def _begun(self):
        """The number of the open work's begin entry, or None."""
        return self._state[1]

    def _append(self, mark, part):
        """Appends an entry, and returns its number."""
        number = self._state[0] + 1
        entry = (number, mark, part)
        self._state = state_behind(self._state, entry)
        self._roll = self._roll + (entry,)
        self._pending = self._pending + (entry,)
        return number

    def _rows_after(self, deed):
        """The rows of the deed's page after the deed."""
        return done(deed, self._rows[page_of(deed)], lambda page: self._rows[page])

    def _change(self, page, rows):
        """Gives the page these rows; a page that was clean becomes the youngest of the dirty ones."""
        self._rows[page] = rows
        if page not in self._dirty:
            self._dirty.append(page)

    def _make_room(self, page):
        """Writes pages until the page may become dirty."""
        while page not in self._dirty and len(self._dirty) >= self._room:
            self._write_some()

    def _write_some(self):
        """Writes the eldest dirty page that may go by itself, or else the eldest one's knot."""
        for page in list(self._dirty):
            if self.may_go(page):
                self._write_pages((page,))
                return
        self.write_knot(self._dirty[0])

    def _write_pages(self, pages):
        """Writes those of the pages that are dirty, as a whole."""
        frames = tuple([(page, self.number(page), self._rows[page]) for page in pages if page in self._dirty])
        if len(frames) == 0:
            return
        self.sync_log()
        # A crash between two frames must not be seen: the shelf then stands for all of them.
        if len(frames) > 1:
            self._disk.put_shelf(shelf_text(frames))
        for page, number, rows in frames:
            self._disk.put_frame(page, frame_text(page, number, rows))
            self._frames[page] = number
            self._dirty.remove(page)
        if len(frames) > 1:
            self._disk.put_shelf("")

    def _first_unwritten(self):
        """The least number of a deed entry that its page's frame does not have, or the number behind the last entry."""
        for number, deed in deeds_of(self._roll):
            if number > self._frames[page_of(deed)]:
                return number
        return self._state[0] + 1

    def _cut_at(self, number):
        """Cuts off all up to and including the end entry with the number."""
        head = (number, "head", numbers_at(self._roll, number))
        self._roll = (head,) + tuple([entry for entry in self._roll if entry[0] > number])
        self._state = state_of(self._roll)
        self._disk.cut_tape(roll_text(self._roll))
        self._pending = ()


def _check_page(page):
    if not is_page(page):
        raise BadPage(page)

"""Opening a disk: its pages are led to the end of the log, and the work that a crash left open is given up."""

from wendleaf.errors import BadRoom
from wendleaf.frames import frame_text
from wendleaf.mending import BLANK, puts, stands_of
from wendleaf.numerals import PAGES, is_within
from wendleaf.works import Work
from wendleaf.writer import read_shelf


def opened(disk, room=32):
    """The work on the disk."""
    if not is_within(room, 1, PAGES):
        raise BadRoom(room)
    # All that can be refused is refused here, ahead of the first write.
    roll, good, stands = stands_of(disk)
    led = puts(roll, stands)
    _mend_tape(disk, good)
    _empty_shelf(disk)
    _put_blanks(disk, stands)
    work = Work(disk, room, roll, _led_rows(disk, stands, led))
    if work.live() is not None:
        work.give_up()
    return work


def _mend_tape(disk, good):
    """Cuts off what stands behind the good part, and makes all of the tape safe."""
    if good < len(disk.tape()):
        disk.cut_tape(disk.tape()[:good])
    elif disk.safe() < good:
        disk.sync()


def _empty_shelf(disk):
    """Writes the frames of the shelf to their places, and empties the shelf."""
    frames = read_shelf(disk.shelf())
    if frames is not None:
        for page, number, rows in frames:
            _put_frame(disk, page, frame_text(page, number, rows))
    if disk.shelf() != "":
        disk.put_shelf("")


def _put_blanks(disk, stands):
    """Replaces each frame of a page that stands blank; a page without a frame needs none."""
    for page, stand in enumerate(stands):
        if stand == BLANK and disk.frame(page) is not None:
            _put_frame(disk, page, frame_text(page, 0, ()))


def _put_frame(disk, page, text):
    """Writes the frame unless it is there already."""
    if disk.frame(page) != text:
        disk.put_frame(page, text)


def _led_rows(disk, stands, led):
    """The rows of all pages behind the frames to which they are led, which are written one by one."""
    pages = [rows for _, rows in stands]
    for page, number, rows in led:
        disk.put_frame(page, frame_text(page, number, rows))
        pages[page] = rows
    return pages

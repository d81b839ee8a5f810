"""What stands in the pages of a disk, and how they are led to the end of the log."""

from wendleaf.bare import versions_at
from wendleaf.deedrun import done
from wendleaf.deeds import inverse, page_of
from wendleaf.errors import BadTape, BadText, Wounded
from wendleaf.frames import read_frame
from wendleaf.known import in_lot, known
from wendleaf.logread import bare_of, deeds_of, image_at, read_tape
from wendleaf.losers import begin_moment
from wendleaf.numerals import PAGES
from wendleaf.plans import mendable, plan
from wendleaf.writer import read_shelf

# What stands in a page that is to be led through all of its history.
BLANK = (0, ())


def stands_of(disk):
    """The roll, the number of signs of the tape's good part, and what stands in each page."""
    roll, good = read_tape(disk.tape())
    frames = _frames_used(disk)
    # A frame that no entry can have made is a sign of a lost log.
    if max([frame[0] for frame in frames if frame is not None], default=0) > roll[-1][0]:
        raise BadTape(disk.tape().count("\n"))
    return roll, good, _stands(roll, frames)


def image_of(roll, stands):
    """The image of what stands."""
    return image_at(roll, [None if stand is None else stand[0] for stand in stands])


def wounded_by(roll, stands):
    """The pages that keep the image from being mendable."""
    log = bare_of(roll)
    begin = versions_at(log, begin_moment(roll))
    end = versions_at(log, len(log[1]))
    pages = []
    # If the image is mendable, all deeds can be undone from the end on: every version is in its lot, and none is found.
    for page, lot in enumerate(known(log, image_of(roll, stands))):
        if not in_lot(lot, begin[page]) or not in_lot(lot, end[page]):
            pages.append(page)
    return tuple(pages)


def puts(roll, stands):
    """The page, the number and the rows that each move of the plan gives."""
    pages = wounded_by(roll, stands)
    if len(pages) > 0:
        raise Wounded(pages)
    return frames_led(roll, stands)


def frames_led(roll, stands):
    """The page, the number and the rows that each move of the plan gives; the image may be one that is not mendable."""
    deeds = deeds_of(roll)
    numbers = _numbers(roll)
    image = image_of(roll, stands)
    versions = list(image)
    rows = [None if stand is None else stand[1] for stand in stands]
    found = []
    for t, way in plan(bare_of(roll), image):
        deed = deeds[t - 1][1] if way == 1 else inverse(deeds[t - 1][1])
        page = page_of(deed)
        versions[page] += way
        rows[page] = done(deed, rows[page], lambda read: rows[read])
        found.append((page, numbers[page][versions[page]], rows[page]))
    return tuple(found)


def _frames_used(disk):
    """For each page the number and the rows of its frame, or None; a frame of the shelf hides the one on the disk."""
    frames = [_read_frame(page, disk.frame(page)) for page in range(PAGES)]
    shelved = read_shelf(disk.shelf())
    if shelved is not None:
        for page, number, rows in shelved:
            frames[page] = (number, rows)
    return frames


def _read_frame(page, text):
    """The number and the rows of the frame, or None if it cannot be read or is not the page's."""
    if text is None:
        return None
    try:
        other, number, rows = read_frame(text)
    except BadText:
        return None
    return (number, rows) if other == page else None


def _stands(roll, frames):
    """What stands in each page, by the number and the rows of its frame or None."""
    image = image_at(roll, [None if frame is None else frame[0] for frame in frames])
    stands = []
    for page, frame in enumerate(frames):
        # A frame with the number 0 has no rows or is not whole: its page stands as it would without the frame.
        if image[page] is not None and frame[0] > 0:
            stands.append(frame)
        else:
            stands.append(BLANK if roll[0][2][page] == 0 else None)
    if roll[0][0] == 0 and not mendable(bare_of(roll), image_of(roll, stands)):
        return (BLANK,) * PAGES
    return tuple(stands)


def _numbers(roll):
    """For each page the numbers of its versions."""
    numbers = [[number] for number in roll[0][2]]
    for number, deed in deeds_of(roll):
        numbers[page_of(deed)].append(number)
    return numbers

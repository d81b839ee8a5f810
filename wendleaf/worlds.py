"""Two worlds that agree on every known version and differ on every other one."""

from wendleaf.bare import is_image, steps_of
from wendleaf.known import in_lot, known
from wendleaf.numerals import is_number, is_within


def worlds(log, image):
    """The paper of the log and the image."""
    lots = known(log, image)
    return tuple([_entry(step, lots) for step in steps_of(log)])


def worlds_right(log, image, paper, x, k):
    """Whether the paper shows that version `k` of page `x` is not known."""
    if not is_image(log, image) or not _is_paper(log, paper):
        return False
    contents = _second_world(log, known(log, image), paper)
    if not is_within(x, 0, len(contents) - 1) or not is_within(k, 0, len(contents[x]) - 1):
        return False
    for page, version in enumerate(image):
        if version is not None and contents[page][version] != 0:
            return False
    return contents[x][k] == 1


def _entry(step, lots):
    """The entry of one deed: the page whose content it adds, or None."""
    page, version, reads = step
    lot = lots[page]
    if in_lot(lot, version - 1) == in_lot(lot, version):
        return None
    # One of them is not known, or the lot would have grown by this deed.
    return min([read for read, seen in reads if not in_lot(lots[read], seen)])


def _is_paper(log, thing):
    """Whether each deed has an entry that is None or a page it reads."""
    deeds = log[1]
    if not isinstance(thing, tuple) or len(thing) != len(deeds):
        return False
    for entry, deed in zip(thing, deeds):
        if entry is not None and not (is_number(entry) and entry in deed[1]):
            return False
    return True


def _second_world(log, lots, paper):
    """For each page the contents of its versions in the second world."""
    contents = [[0 if in_lot(lot, 0) else 1] for lot in lots]
    for deed, entry in zip(log[1], paper):
        versions = contents[deed[0]]
        added = 0 if entry is None else contents[entry][-1]
        versions.append((versions[-1] + added) % 2)
    return contents

"""Looking into the past: the rows that a page had at an earlier moment of the log."""

from wendleaf.bare import steps_of, versions_at
from wendleaf.deedrun import done
from wendleaf.deeds import inverse
from wendleaf.errors import BadNumber, BadPage, NotKnown
from wendleaf.known import in_lot, known
from wendleaf.logread import bare_of, deeds_of
from wendleaf.mending import frames_led, image_of, stands_of
from wendleaf.numerals import is_page, is_within
from wendleaf.plans import leads_within


def past(disk, page, moment):
    """The rows that the page had at the moment."""
    roll, stands, is_known = read_past(disk, page, moment)
    if not is_known:
        raise NotKnown(page)
    return _rows_at(roll, stands, moment)[page]


def reach(disk, page):
    """The first and the last moment at which the page's version is known, or None if the page is lost."""
    _check_page(page)
    roll, _, stands = stands_of(disk)
    log = bare_of(roll)
    lot = known(log, image_of(roll, stands))[page]
    if lot is None:
        return None
    moments = [moment for moment in range(len(log[1]) + 1) if in_lot(lot, versions_at(log, moment)[page])]
    return moments[0], moments[-1]


def past_works(work):
    """For each end entry its number and the moment behind its work."""
    found = []
    moment = 0
    for number, mark, _ in work.roll():
        if mark in ("deed", "back"):
            moment += 1
        elif mark == "end":
            found.append((number, moment))
    return tuple(found)


def read_past(disk, page, moment):
    """The roll, what stands in each page, and whether the page's version at the moment is known."""
    _check_page(page)
    roll, _, stands = stands_of(disk)
    log = bare_of(roll)
    if not is_within(moment, 0, len(log[1])):
        raise BadNumber(moment)
    lot = known(log, image_of(roll, stands))[page]
    return roll, stands, in_lot(lot, versions_at(log, moment)[page])


def _rows_at(roll, stands, moment):
    """The rows of all pages at the moment, as near to it as they are known; of a lost page None."""
    log = bare_of(roll)
    lots = known(log, image_of(roll, stands))
    deeds = deeds_of(roll)
    steps = steps_of(log)
    rows = [None if stand is None else stand[1] for stand in stands]
    for page, _, here in frames_led(roll, stands):
        rows[page] = here
    for t in range(len(steps), moment, -1):
        page = steps[t - 1][0]
        if leads_within(steps[t - 1], lots):
            rows[page] = done(inverse(deeds[t - 1][1]), rows[page], lambda read: rows[read])
    return rows


def _check_page(page):
    if not is_page(page):
        raise BadPage(page)

"""Knots: pages that are written as a whole because they depend on one another."""

from wendleaf.bare import made_image, made_log, versions_at
from wendleaf.errors import BadLot
from wendleaf.numerals import is_within
from wendleaf.plans import mendable
from wendleaf.rings import has_page, needs_of


def knots(log):
    """All knots, each an ascending tuple of pages."""
    reached = _reached(needs_of(made_log(log)))
    found = []
    for page in range(len(reached)):
        knot = _knot_of(reached, page)
        if knot[0] == page:
            found.append(knot)
    return tuple(found)


def written(log, image, lot):
    """The image in which the pages of the lot have their newest versions."""
    versions = list(made_image(log, image))
    if not _is_lot(lot, len(versions)):
        raise BadLot(-1)
    newest = versions_at(log, len(log[1]))
    for page in lot:
        versions[page] = newest[page]
    return tuple(versions)


def may_write(log, image, lot):
    """Whether the image is mendable after the pages of the lot are written."""
    return mendable(log, written(log, image, lot))


def _reached(needs):
    """For each page the pages on which it depends, directly or through other pages, as the bits of a number."""
    reached = list(needs)
    for through in range(len(reached)):
        for page in range(len(reached)):
            if has_page(reached[page], through):
                reached[page] = reached[page] | reached[through]
    return reached


def _knot_of(reached, page):
    """The knot that contains the page."""
    pages = []
    for other in range(len(reached)):
        if other == page or (has_page(reached[page], other) and has_page(reached[other], page)):
            pages.append(other)
    return tuple(pages)


def _is_lot(thing, many):
    """Whether the thing is an ascending tuple of pages of a log with this many."""
    if not isinstance(thing, tuple):
        return False
    least = 0
    for page in thing:
        if not is_within(page, least, many - 1):
            return False
        least = page + 1
    return True

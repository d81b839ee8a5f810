"""Bare logs: which page each deed writes and which pages it reads; versions, moments and images."""

from wendleaf.deeds import made_deed, page_of, reads_of
from wendleaf.errors import BadImage, BadLog, BadNumber, BadPage, TooMany
from wendleaf.numerals import PAGES, is_number, is_within

MOST_DEEDS = 400


def is_log(thing):
    """Whether the thing is a bare log."""
    try:
        made_log(thing)
    except (BadLog, TooMany):
        return False
    return True


def made_log(thing):
    """A bare log equal to the thing."""
    if not isinstance(thing, tuple) or len(thing) != 2:
        raise BadLog(-1)
    many, deeds = thing
    if not is_number(many) or many < 1 or not isinstance(deeds, tuple):
        raise BadLog(-1)
    if many > PAGES:
        raise TooMany(many)
    if len(deeds) > MOST_DEEDS:
        raise TooMany(len(deeds))
    for number, deed in enumerate(deeds, start=1):
        if not _is_bare_deed(deed, many):
            raise BadLog(number)
    return many, tuple([(page, reads) for page, reads in deeds])


def is_image(log, image):
    """Whether the image is one of the bare log."""
    if not is_log(log):
        return False
    try:
        made_image(log, image)
    except BadImage:
        return False
    return True


def made_image(log, image):
    """An image of the log equal to the thing."""
    many, deeds = made_log(log)
    if not isinstance(image, tuple) or len(image) != many:
        raise BadImage(-1)
    newest = versions_at((many, deeds), len(deeds))
    for page, version in enumerate(image):
        if version is not None and not is_within(version, 0, newest[page]):
            raise BadImage(page)
    return tuple(list(image))


def last(log, page):
    """The newest version of the page."""
    return len(_numbers_of(log, page))


def number_of(log, page, version):
    """The number of the deed that leads to this version of the page."""
    numbers = _numbers_of(log, page)
    if not is_within(version, 1, len(numbers)):
        raise BadNumber(version)
    return numbers[version - 1]


def version_at(log, page, moment):
    """The version of the page at the moment."""
    numbers = _numbers_of(log, page)
    if not is_within(moment, 0, len(log[1])):
        raise BadNumber(moment)
    return len([number for number in numbers if number <= moment])


def bare(deeds, many):
    """The bare log with `many` pages of the deeds."""
    made = [made_deed(deed) for deed in deeds]
    return made_log((many, tuple([(page_of(deed), reads_of(deed)) for deed in made])))


def versions_at(log, moment):
    """The versions of all pages of a valid log at the moment."""
    many, deeds = log
    versions = [0] * many
    for page, _ in deeds[:moment]:
        versions[page] += 1
    return tuple(versions)


def steps_of(log):
    """For each deed of a valid log its page, the version to which it leads, and the pairs (page, version) it reads."""
    many, deeds = log
    versions = [0] * many
    steps = []
    for page, reads in deeds:
        versions[page] += 1
        steps.append((page, versions[page], tuple([(read, versions[read]) for read in reads])))
    return tuple(steps)


def _is_bare_deed(thing, many):
    """Whether the thing is a bare deed over this many pages."""
    if not isinstance(thing, tuple) or len(thing) != 2:
        return False
    page, reads = thing
    if not is_within(page, 0, many - 1) or not isinstance(reads, tuple):
        return False
    least = 0
    for read in reads:
        if not is_within(read, least, many - 1) or read == page:
            return False
        least = read + 1
    return True


def _numbers_of(log, page):
    """The numbers of the deeds that write the page, ascending."""
    many, deeds = made_log(log)
    if not is_within(page, 0, many - 1):
        raise BadPage(page)
    return [number for number, deed in enumerate(deeds, start=1) if deed[0] == page]

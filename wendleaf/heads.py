"""Striking the head of a log: its first deeds are removed."""

from wendleaf.bare import made_image, made_log, steps_of, versions_at
from wendleaf.errors import BadNumber, Older
from wendleaf.numerals import is_within
from wendleaf.plans import mendable


def struck(log, count):
    """The log without its first `count` deeds."""
    many, deeds = made_log(log)
    _check_count(log, count)
    return many, deeds[count:]


def moved_image(log, image, count):
    """The image with the versions of the log without its first `count` deeds."""
    image = made_image(log, image)
    _check_count(log, count)
    starts = versions_at(log, count)
    page = _first_older(image, starts)
    if page is not None:
        raise Older(page)
    return tuple([version - start for version, start in zip(image, starts)])


def may_strike(log, image, count):
    """Whether the image is mendable and no page of it is older than `count`."""
    image = made_image(log, image)
    _check_count(log, count)
    return mendable(log, image) and _first_older(image, versions_at(log, count)) is None


def cut(log, image):
    """The greatest number of deeds at which the head may be struck, or None if the image is not mendable."""
    image = made_image(log, image)
    if not mendable(log, image):
        return None
    for t, (page, version, _) in enumerate(steps_of(log), start=1):
        if image[page] < version:
            return t - 1
    return len(log[1])


def _check_count(log, count):
    if not is_within(count, 0, len(log[1])):
        raise BadNumber(count)


def _first_older(image, starts):
    """The first page that is lost or has an older version than the one at which it is to start, or None."""
    for page, version in enumerate(image):
        if version is None or version < starts[page]:
            return page
    return None

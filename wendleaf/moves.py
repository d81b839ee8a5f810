"""Moves: an image is changed by one deed."""

from wendleaf.bare import made_image, steps_of
from wendleaf.errors import NoMove
from wendleaf.numerals import is_number, is_within


def move(log, image, thing):
    """The image after the move, a tuple `(t, 1)` or `(t, -1)`."""
    image = made_image(log, image)
    target = target_of(steps_of(log), image, thing)
    if target is None:
        raise NoMove(thing)
    page, version = target
    return image[:page] + (version,) + image[page + 1:]


def target_of(steps, image, thing):
    """The page that the move changes and the version that it gets, or None if the thing is no move allowed here."""
    if not _is_move(thing, len(steps)):
        return None
    t, way = thing
    page, version, reads = steps[t - 1]
    here, there = (version - 1, version) if way == 1 else (version, version - 1)
    if image[page] != here or not all(image[read] == seen for read, seen in reads):
        return None
    return page, there


def _is_move(thing, many):
    """Whether the thing is a move of one of this many deeds."""
    if not isinstance(thing, tuple) or len(thing) != 2:
        return False
    t, way = thing
    return is_within(t, 1, many) and is_number(way) and way in (1, -1)

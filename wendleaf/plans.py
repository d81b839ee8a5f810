"""Roads and plans: leading an image by moves to the end of the log."""

from wendleaf.bare import is_image, made_image, made_log, steps_of, versions_at
from wendleaf.errors import BadNumber, NoMove
from wendleaf.known import first_lots, grown, in_lot, known, version_added, widened
from wendleaf.moves import target_of
from wendleaf.numerals import is_within


def slice_at(log, lots, s):
    """The image in which each page has its version at moment `s`, or the nearest one in its lot."""
    log = made_log(log)
    if not is_within(s, 0, len(log[1])):
        raise BadNumber(s)
    return tuple([_nearest(lot, version) for lot, version in zip(lots, versions_at(log, s))])


def road(log, image):
    """The moves that lead past every known version of every page to the end."""
    image = made_image(log, image)
    steps = steps_of(log)
    lots = first_lots(image)
    moves = []
    now = 0
    for t, way in grown(log, image):
        ahead, behind = (t - 1, t) if way == 1 else (t, t - 1)
        moves.extend(_way(steps, lots, now, ahead))
        moves.append((t, way))
        page = steps[t - 1][0]
        lots[page] = widened(lots[page], version_added(steps[t - 1], way))
        now = behind
    moves.extend(_way(steps, lots, now, len(steps)))
    return tuple(moves)


def plan(log, image):
    """The moves that lead the image to the newest known version of each page."""
    if made_image(log, image) == _goal(log, image):
        return ()
    return road(log, image)


def after(log, image, moves):
    """The image after the moves."""
    versions = list(made_image(log, image))
    steps = steps_of(log)
    for index, thing in enumerate(moves):
        target = target_of(steps, versions, thing)
        if target is None:
            raise NoMove(index)
        page, version = target
        versions[page] = version
    return tuple(versions)


def plan_right(log, image, moves):
    """Whether the moves are allowed in order and lead to the newest known version of each page."""
    if not is_image(log, image) or not isinstance(moves, tuple):
        return False
    try:
        return after(log, image, moves) == _goal(log, image)
    except NoMove:
        return False


def mendable(log, image):
    """Whether no page is lost and the newest version of each page is known."""
    return is_image(log, image) and _goal(log, image) == versions_at(log, len(log[1]))


def leads_within(step, lots):
    """Whether both versions of the deed are in the lot of its page."""
    page, version, _ = step
    return in_lot(lots[page], version - 1) and in_lot(lots[page], version)


def _goal(log, image):
    """The slice at the last moment of the lots of the image."""
    return slice_at(log, known(log, image), len(log[1]))


def _nearest(lot, version):
    """The version in the lot that is nearest to the version, or None for a lost page."""
    if lot is None:
        return None
    low, high = lot
    return max(low, min(high, version))


def _way(steps, lots, start, goal):
    """The moves by which the slice at the moment `start` becomes the slice at the moment `goal`."""
    if start < goal:
        return [(t, 1) for t in range(start + 1, goal + 1) if leads_within(steps[t - 1], lots)]
    return [(t, -1) for t in range(start, goal, -1) if leads_within(steps[t - 1], lots)]

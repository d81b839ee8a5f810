"""What is known: the versions that can be worked out from an image."""

from heapq import heappop, heappush

from wendleaf.bare import made_image, steps_of


def known(log, image):
    """The lots: for each page the pair of its lowest and its highest known version, or None if it is lost."""
    lots, _ = _grow(log, made_image(log, image))
    return tuple(lots)


def grown(log, image):
    """The growths of the lots, in the order in which they are made."""
    _, growths = _grow(log, made_image(log, image))
    return tuple(growths)


def in_lot(lot, version):
    """Whether the version is in the lot; a lost page has None for a lot."""
    return lot is not None and lot[0] <= version <= lot[1]


def first_lots(image):
    """The lots that contain the versions of the image alone, as a list."""
    return [None if version is None else (version, version) for version in image]


def version_added(step, way):
    """The version that a growth by this deed adds to the lot of its page."""
    _, version, _ = step
    return version if way == 1 else version - 1


def widened(lot, version):
    """The lot with one more version."""
    low, high = lot
    return min(low, version), max(high, version)


def _grow(log, image):
    """The lots at the end, and all growths."""
    steps = steps_of(log)
    touching = _touching(steps)
    lots = first_lots(image)
    # A growth stays possible until it is made, so the heap holds each possible one, and each only once.
    waiting = [t for t in range(1, len(steps) + 1) if _way_of_growth(steps[t - 1], lots) != 0]
    growths = []
    while len(waiting) > 0:
        t = heappop(waiting)
        page = steps[t - 1][0]
        way = _way_of_growth(steps[t - 1], lots)
        growths.append((t, way))
        added = version_added(steps[t - 1], way)
        lots[page] = widened(lots[page], added)
        for other in touching[page, added]:
            if _way_of_growth(steps[other - 1], lots) != 0:
                heappush(waiting, other)
    return lots, growths


def _way_of_growth(step, lots):
    """1 or -1 if the deed can add a version to the lot of its page, else 0."""
    page, version, reads = step
    lot = lots[page]
    if lot is None or not all(in_lot(lots[read], seen) for read, seen in reads):
        return 0
    low, high = lot
    if high == version - 1:
        return 1
    if low == version:
        return -1
    return 0


def _touching(steps):
    """For each page and version the numbers of the deeds that lead to it, lead away from it or read it."""
    touching = {}
    for t, (page, version, reads) in enumerate(steps, start=1):
        for key in [(page, version - 1), (page, version)] + list(reads):
            touching.setdefault(key, []).append(t)
    return touching

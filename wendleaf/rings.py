"""Rings: pages that depend on one another in a circle."""

from wendleaf.bare import is_log, made_log, steps_of
from wendleaf.errors import NoRing
from wendleaf.numerals import is_number, is_within


def order(log):
    """All pages, each behind those on which it depends, or None if the log has a ring."""
    needs = needs_of(made_log(log))
    pages = []
    listed = 0
    while len(pages) < len(needs):
        page = _first_ready(needs, listed)
        if page is None:
            return None
        pages.append(page)
        listed = listed | (1 << page)
    return tuple(pages)


def ring(log):
    """The shortest ring, as pairs of a page and a deed, or None if the log has no ring."""
    log = made_log(log)
    needs = needs_of(log)
    best = None
    for start in range(len(needs)):
        pages = _ring_from(needs, start)
        if pages is not None and (best is None or len(pages) < len(best)):
            best = pages
    if best is None:
        return None
    return tuple([(page, _first_deed(log, page, read)) for page, read in zip(best, best[1:] + best[:1])])


def ring_right(log, thing):
    """Whether the thing is a ring of the log, begun at any of its pairs."""
    if not is_log(log) or not isinstance(thing, tuple) or len(thing) < 2:
        return False
    if not all([_is_pair(log, pair) for pair in thing]):
        return False
    pages = [page for page, _ in thing]
    if len(set(pages)) < len(pages):
        return False
    return all([read in log[1][t - 1][1] for (_, t), read in zip(thing, pages[1:] + pages[:1])])


def ring_image(log):
    """An image without lost pages that cannot be mended, made from the ring of the log."""
    pairs = ring(log)
    if pairs is None:
        raise NoRing(0)
    steps = steps_of(log)
    image = [0] * log[0]
    for (_, t), (page, u) in zip(pairs, pairs[1:] + pairs[:1]):
        _, version, _ = steps[u - 1]
        image[page] = version - 1 if u < t else version
    return tuple(image)


def needs_of(log):
    """For each page of a valid log the pages on which it depends, as the bits of a number."""
    many, deeds = log
    needs = [0] * many
    for page, reads in deeds:
        for read in reads:
            needs[page] = needs[page] | (1 << read)
    return tuple(needs)


def has_page(pages, page):
    """Whether the page is one of the pages, which are the bits of a number."""
    return (pages >> page) & 1 == 1


def _first_ready(needs, listed):
    """The smallest page that is not listed and depends on listed pages only, or None."""
    for page, pages in enumerate(needs):
        if not has_page(listed, page) and pages & listed == pages:
            return page
    return None


def _ring_from(needs, start):
    """The pages of the shortest ring of which `start` is the smallest page, or None.

    Of several such rings it is the one with the smallest tuple of pages.
    """
    layers = [1 << start]
    met = 0
    while needs[start] & layers[-1] == 0:
        layer = _layer_behind(needs, start, layers[-1], met)
        if layer == 0:
            return None
        layers.append(layer)
        met = met | layer
    # Each page of a layer leads to `start` in as few steps as any: a smallest next page is never a wrong turn.
    pages = [start]
    for layer in layers[:0:-1]:
        pages.append(_least(needs[pages[-1]] & layer))
    return tuple(pages)


def _layer_behind(needs, start, layer, met):
    """The pages above `start` that have not been met and depend on a page of the layer."""
    found = 0
    for page in range(start + 1, len(needs)):
        if not has_page(met, page) and needs[page] & layer != 0:
            found = found | (1 << page)
    return found


def _least(pages):
    """The smallest page of at least one page."""
    return (pages & -pages).bit_length() - 1


def _first_deed(log, page, read):
    """The number of the first deed that writes the page and reads the other one."""
    return min([t for t, deed in enumerate(log[1], start=1) if deed[0] == page and read in deed[1]])


def _is_pair(log, thing):
    """Whether the thing is a pair of a page and the number of a deed that writes it."""
    if not isinstance(thing, tuple) or len(thing) != 2:
        return False
    page, t = thing
    return is_number(page) and is_within(t, 1, len(log[1])) and log[1][t - 1][0] == page

"""The store: tables and snapshots on the pages of a work."""

from wendleaf.bare import MOST_DEEDS
from wendleaf.errors import BadStoreDeed, Full, TooMany
from wendleaf.numerals import PAGES
from wendleaf.tables import made_storedeed, planned

MOST_AT_ONCE = 20


class Store:
    """A work whose pages hold tables and snapshots, and the manner in which store deeds are planned."""

    def __init__(self, work, manner):
        self._work = work
        self._manner = manner

    def do(self, deed):
        """Carries out one store deed, and returns how many page deeds there were."""
        return self.do_all((deed,))

    def do_all(self, deeds):
        """Carries out several store deeds as one, and returns how many page deeds there were."""
        made = _made_all(deeds)
        kept = self._work.kept()
        page_deeds = planned(self.view(), made, kept, self._manner)
        if len(page_deeds) == 0:
            return 0
        # The log must have room for undoing all of them.
        if len(kept) + 2 * len(page_deeds) > MOST_DEEDS:
            raise Full(MOST_DEEDS)
        self._work.begin()
        for deed in page_deeds:
            self._work.do(deed)
        self._work.end()
        return len(page_deeds)

    def view(self):
        """The rows of all pages."""
        return tuple([self._work.page(page) for page in range(PAGES)])


def _made_all(deeds):
    """Store deeds equal to the things."""
    if not isinstance(deeds, tuple):
        raise BadStoreDeed(-1)
    if not 1 <= len(deeds) <= MOST_AT_ONCE:
        raise TooMany(len(deeds))
    return tuple([made_storedeed(deed) for deed in deeds])

"""Drafts: the working view on which store deeds are planned as page deeds."""

from wendleaf.deedrun import done
from wendleaf.deeds import page_of, reads_of
from wendleaf.errors import NoPage
from wendleaf.numerals import PAGES
from wendleaf.rings import has_page
from wendleaf.trees import free_pages, references

RINGLESS = "ringless"


class Draft:
    """A view, and the page deeds that are planned on it; each is carried out on it at once."""

    def __init__(self, view, kept, manner):
        """The kept deeds are those that the log has; they count for which pages read which."""
        self._pages = list(view)
        self._planned = []
        self._is_ringless = manner == RINGLESS
        # For each page the pages that its deeds read, as the bits of a number.
        self._needs = [0] * PAGES
        for deed in kept:
            self._note(deed)

    def look(self):
        """A look at the pages as they are whenever it is called."""
        return lambda page: self._pages[page]

    def deeds(self):
        """The page deeds that are planned so far."""
        return tuple(self._planned)

    def fresh(self):
        """The least free page."""
        free = free_pages(self.look())
        if len(free) == 0:
            raise NoPage(0)
        return free[0]

    def plan(self, deed):
        """Plans the page deed, or what replaces it if it would close a ring."""
        page = page_of(deed)
        before = self._pages[page]
        after = done(deed, before, self.look())
        if self._closes_ring(deed):
            if after == before:
                return
            deed = ("carry", page, before, after)
        self._note(deed)
        self._planned.append(deed)
        self._pages[page] = after

    def owned(self, page, holder, key):
        """The page, or a copy of it if other rows name it besides the holder's row at the key, which then names it."""
        if references(self.look())[page] < 2:
            return page
        copy = self.fresh()
        if len(self._pages[page]) > 0:
            self.plan(("take", copy, page, None, None))
        self.plan(("bump", holder, key, 0, copy - page))
        return copy

    def _note(self, deed):
        """Keeps in mind which pages the deed reads."""
        for read in reads_of(deed):
            self._needs[page_of(deed)] = self._needs[page_of(deed)] | (1 << read)

    def _closes_ring(self, deed):
        """Whether the deed must not read, because the page that it reads depends on the page that it writes."""
        if not self._is_ringless:
            return False
        return any([self._depends(read, page_of(deed)) for read in reads_of(deed)])

    def _depends(self, page, other):
        """Whether the page depends on the other one, directly or through other pages."""
        met = 0
        found = self._needs[page]
        while found != met:
            met = found
            for through in range(PAGES):
                if has_page(met, through):
                    found = found | self._needs[through]
        return has_page(found, other)

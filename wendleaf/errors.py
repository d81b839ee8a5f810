"""The errors of the package: one class for each way in which a call can be refused."""


class Refused(ValueError):
    """The base class of all errors of the package."""

    def __init__(self, what):
        self.what = what


class BadRows(Refused):
    """The argument is not a valid tuple of rows; what: -1, or the index of the first bad row."""


class TooMany(Refused):
    """There are more parts than allowed; what: how many there are."""


class BadText(Refused):
    """The text is not the written form of anything; what: the index of the first bad line."""


class BadDeed(Refused):
    """The argument is not a deed; what: the index of its first bad part."""


class Unfit(Refused):
    """A deed cannot be done, or undone, on these rows; what: the deed."""


class BadLog(Refused):
    """The argument is not a bare log; what: -1, or the number of the first bad deed."""


class BadImage(Refused):
    """The argument is not an image of the log; what: -1, or the first bad page."""


class BadPage(Refused):
    """There is no such page; what: the page."""


class BadNumber(Refused):
    """The number is out of range; what: the number."""


class BadLot(Refused):
    """The argument is not an ascending tuple of pages; what: -1."""


class NoMove(Refused):
    """The move is not allowed in this image; what: the move, or the index of the first such move."""


class NoRing(Refused):
    """The log has no ring; what: 0."""


class Older(Refused):
    """A page is lost, or its frame is older than the cut; what: the least such page."""


class BadCosts(Refused):
    """The costs do not fit the log; what: -1, or the index of the first bad cost."""


class Fallen(Refused):
    """The disk has failed; what: how many writes were done."""


class BadPlace(Refused):
    """There is no character at this place; what: the place."""


class BadEntry(Refused):
    """The argument is not a log entry; what: the index of its first bad part."""


class BadRoll(Refused):
    """The argument is not a roll; what: -1, or the index of the first bad entry."""


class BadRoom(Refused):
    """The cache cannot have this size; what: the size."""


class Open(Refused):
    """A work is open already; what: the number of its begin entry."""


class NotOpen(Refused):
    """No work is open; what: 0."""


class Full(Refused):
    """The log has no room; what: the bound that would be exceeded."""


class NotYet(Refused):
    """The page must not be written yet; what: the page."""


class NotKnown(Refused):
    """The version of the page cannot be worked out; what: the page."""


class Known(Refused):
    """The name is in use; what: the name."""


class Wounded(Refused):
    """Some pages cannot be brought to their newest versions; what: a tuple of these pages."""


class BadStoreDeed(Refused):
    """The argument is not a store deed; what: the index of its first bad part."""


class NoTable(Refused):
    """There is no such table or snapshot; what: its source."""


class NoName(Refused):
    """The table has no row of this name; what: the name."""


class BadWidth(Refused):
    """The row does not have the width of its table; what: the width of the table."""


class OverLimit(Refused):
    """The table may not have more rows; what: its limit."""


class TooGreat(Refused):
    """A number would be out of range; what: the number."""


class BookFull(Refused):
    """The book has no room for another source; what: 12."""


class NoPage(Refused):
    """There is no free page; what: 0."""


class BadTape(Refused):
    """A line of the tape is bad or cannot stand where it stands; what: the index of the line."""


class NotLost(Refused):
    """The version of the page can be worked out; what: the page."""


class BadStretch(Refused):
    """A bound of a range of names is not a name; what: 0 for the lower bound, 1 for the upper one."""

"""What several tests use: right deeds, things of every form, and chance that is the same in every run."""

import random

from wendleaf.deedrun import done, fits
from wendleaf.deeds import inverse, is_deed, page_of
from wendleaf.disk import Disk, read_disk
from wendleaf.errors import Refused
from wendleaf.frames import frame_text
from wendleaf.logread import roll_text
from wendleaf.logs import entry_line
from wendleaf.rows import at

GREATEST = 10 ** 12

V1 = (1,)
V2 = (GREATEST, -GREATEST)
V4 = (0, -1, 2, 30)
ROWS = (("a", (1,)), ("b.2", (2, -3)), ("k", V4))
TWELVE = tuple((f"k{n:02}", (n,)) for n in range(12))

RIGHT = (
    ("put", 0, "k", None, V1),
    ("put", 31, "abcdefghijkl", V2, None),
    ("put", 3, "k.a", V4, V1),
    ("bump", 0, "k", 0, 1),
    ("bump", 7, "0", 3, 2 * GREATEST),
    ("bump", 7, "0", 3, -2 * GREATEST),
    ("rename", 1, "a", "b"),
    ("rename", 1, "b", "a"),
    ("take", 5, 2, "m", None),
    ("take", 0, 31, None, "m"),
    ("take", 31, 0, None, None),
    ("take", 5, 2, "a", "b"),
    ("drop", 5, 2, "m", None),
    ("drop", 2, 5, "a", "aa"),
    ("drop", 2, 5, None, None),
    ("add", 5, "s", 0, 2, "a", 3, -1),
    ("add", 5, "s", 3, 2, "s", 0, 1),
    ("tally", 5, "s", 0, 2, None, None, 3, 1),
    ("tally", 5, "s", 3, 2, "a", "b", 0, -1),
    ("carry", 3, (), (("key", (5, 7)), ("key2", (1,)))),
    ("carry", 3, ROWS, ()),
    ("carry", 3, TWELVE, ROWS),
)

DEEP = ()
for _ in range(19):
    DEEP = (DEEP, 1, "a")

# Things of every form: none of them may make a judge raise anything.
THINGS = (
    None, True, False, 0, 1, -1, 2, 12, 400, GREATEST, GREATEST + 1, 10 ** 5000, "", "a", "k.1", "put", "sum", "\n",
    "\u00e9", "\ud800", "A", "abcdefghijklm", (), (None,), (True,), (0,), ("put",), ("carry",), ("a", (1,)), (("a", (1,)),),
    (("a", (True,)),), (("a", 1),), (1, ()), (2, ((0, (1,)),)), (2, ((0, 1),)), (2, (0,)), (0, 0), (1, 1), ((), ()),
    (None, None), ("take", None, None, None, None), (("put", 0, "k", None, (1,)),), DEEP, (DEEP, DEEP), ("put", DEEP, DEEP, DEEP, DEEP),
)

# Things that are no bare logs, with the number of the first bad deed.
BAD_LOGS = (
    (None, -1), (True, -1), (1, -1), ("log", -1), ((), -1), ((1,), -1), ((1, (), ()), -1), (((), 1), -1), ((0, ()), -1),
    ((-1, ()), -1), ((True, ()), -1), ((False, ()), -1), ((None, ()), -1), (("1", ()), -1), ((1, None), -1), ((1, 1), -1),
    ((1, ""), -1), ((33, None), -1),
    ((2, (None,)), 1), ((2, ((),)), 1), ((2, ((0,),)), 1), ((2, ((0, (), ()),)), 1), ((2, (((), 0),)), 1), ((2, ((2, ()),)), 1),
    ((2, ((-1, ()),)), 1), ((2, ((True, ()),)), 1), ((2, ((0, None),)), 1), ((2, ((0, 1),)), 1), ((2, ((0, (0,)),)), 1),
    ((2, ((0, (2,)),)), 1), ((2, ((0, (-1,)),)), 1), ((2, ((0, (True,)),)), 1), ((2, ((0, (1, 1)),)), 1),
    ((3, ((0, (2, 1)),)), 1), ((3, ((0, (1, 0)),)), 1), ((3, ((1, (0, 1, 2)),)), 1), ((3, ((0, (1, None)),)), 1),
    ((3, ((0, ("1",)),)), 1), ((2, ((0, ()), (1, (0,)), (2, ()), None)), 3), ((2, ((0, (1,)), (1, (1,)))), 2),
)


def refusal(call, *arguments, **named):
    """The name and the `what` of the error that the call raises."""
    try:
        result = call(*arguments, **named)
    except Refused as error:
        return error.__class__.__name__, error.what
    raise AssertionError(f"nothing was raised, but returned: {result!r}")


def chance(seed):
    return random.Random(seed)


def some_log(luck, pages, deeds, ringless=False):
    """A bare log of at most this many pages and deeds; without rings, a page reads only pages below it."""
    many = luck.randint(1, pages)
    made = []
    for _ in range(luck.randint(0, deeds)):
        page = luck.randrange(many)
        others = [other for other in range(many) if other < page or (not ringless and other != page)]
        made.append((page, tuple(sorted(luck.sample(others, min(len(others), luck.choice((0, 1, 1, 2))))))))
    return many, tuple(made)


def some_image(luck, log, lost=0.0):
    """An image of the log; each page is lost with this chance."""
    newest = [sum(1 for deed in log[1] if deed[0] == page) for page in range(log[0])]
    return tuple(None if luck.random() < lost else luck.randint(0, most) for most in newest)


def version_at_moment(log, page, moment):
    """The version of the page at the moment, by a plain count."""
    return sum(1 for deed in log[1][:moment] if deed[0] == page)


def some_deed(luck, look, pages=4):
    """A deed that can be done on the rows that `look` tells."""
    keys = "abcd"
    while True:
        page = luck.randrange(pages)
        other = luck.choice([each for each in range(pages) if each != page])
        key, named = luck.choice(keys), luck.choice(keys)
        low, high = luck.choice(((None, None), ("b", None), (None, "c"), ("b", "d")))
        sign = luck.choice((1, -1))
        deed = luck.choice((
            ("put", page, key, at(look(page), key), luck.choice((None, (luck.randint(-5, 5),), (1, 2)))),
            ("put", page, key, at(look(page), key), (luck.randint(-5, 5),)),
            ("bump", page, key, 0, luck.choice((1, -2))), ("rename", page, key, named), ("take", page, other, low, high),
            ("drop", page, other, low, high), ("add", page, key, 0, other, named, 0, sign),
            ("tally", page, key, 0, other, low, high, 0, sign), ("carry", page, look(page), ((key, (7,)),)),
        ))
        if is_deed(deed) and fits(deed, look(page), look):
            return deed


class Watched(Disk):
    """A disk that tells its writes one by one."""

    def __init__(self, fuse=None):
        super().__init__(fuse)
        self.told = []

    def put_frame(self, page, text):
        super().put_frame(page, text)
        self.told.append(("frame", page, text))

    def add_tape(self, text):
        super().add_tape(text)
        self.told.append(("add", text))

    def sync(self):
        super().sync()
        self.told.append(("sync",))

    def put_shelf(self, text):
        super().put_shelf(text)
        self.told.append(("shelf", text))

    def cut_tape(self, text):
        super().cut_tape(text)
        self.told.append(("cut", text))

    def news(self):
        """The writes since the last call."""
        told, self.told = self.told, []
        return told


def lines(*entries):
    return "".join(entry_line(entry) for entry in entries)


def disk_of(roll, frames=(), shelf="", rest="", fuse=None):
    """A disk with this roll; each frame is a text, or the number and the rows for its page."""
    disk = Watched(fuse)
    disk.add_tape(roll_text(roll) + rest)
    disk.sync()
    for page, frame in frames:
        disk.put_frame(page, frame if isinstance(frame, str) else frame_text(page, *frame))
    disk.put_shelf(shelf)
    disk.news()
    return disk


def watched(text):
    """A disk with this text that tells its writes."""
    plain = read_disk(text)
    disk = Watched()
    vars(disk).update(vars(plain))
    return disk


def spoilt(text, place, sign):
    """The text with another sign at the place."""
    return text[:place] + sign + text[place + 1:]


class History:
    """What works have done, entry by entry, kept apart from the log that may lose its head."""

    def __init__(self):
        self.entries = {}

    def remember(self, work):
        for number, mark, part in work.roll()[1:]:
            self.entries[number] = (mark, part)

    def forget(self, last):
        """Takes back the entries behind the one with the number `last`, which a crash has lost."""
        self.entries = {number: entry for number, entry in self.entries.items() if number <= last}

    def rows_at(self, last):
        """The rows behind the entry with this number, and what they are if an open work is undone."""
        rows = {page: () for page in range(32)}
        live = []
        for number in range(1, last + 1):
            mark, part = self.entries[number]
            if mark in ("begin", "end"):
                live = []
                continue
            deed = part if mark == "deed" else part[1]
            rows[page_of(deed)] = done(deed, rows[page_of(deed)], rows.get)
            if mark == "deed":
                live.append(deed)
            else:
                live.pop()
        finished = dict(rows)
        for deed in reversed(live):
            finished[page_of(deed)] = done(inverse(deed), finished[page_of(deed)], finished.get)
        return [rows[page] for page in range(32)], [finished[page] for page in range(32)]


def pages_of(work):
    """The rows of all pages of the work."""
    return [work.page(page) for page in range(32)]

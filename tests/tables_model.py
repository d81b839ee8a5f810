"""Tables as plain dicts, store deeds drawn by chance, and the plans of [25] straight by the words of the document."""

from wendleaf.deedrun import done
from wendleaf.deeds import page_of, reads_of
from wendleaf.errors import Refused
from wendleaf.tables import planned

BLANK = ((),) * 32
MOST = 10 ** 9


class Dicts:
    """The tables and snapshots: for each source its width, its most, and a dict of its rows."""

    def __init__(self, tables=None):
        self.tables = tables or {}

    def copy(self):
        return Dicts({source: (width, most, dict(rows)) for source, (width, most, rows) in self.tables.items()})

    def meaning(self):
        return tuple((source, width, most, tuple(sorted(rows.items()))) for source, (width, most, rows) in sorted(self.tables.items()))

    def do(self, deed):
        """Does the store deed; returns None, or the name and the `what` of the error of [24.2] (NoPage is never one)."""
        word, tables = deed[0], self.tables
        table = ("s." if word in ("clone", "fade") else "t.") + deed[1]
        if word == "make":
            return self.new(table, (deed[2], deed[3], {}))
        if table not in tables:
            return "NoTable", table
        if word in ("end", "fade"):
            del tables[table]
        elif word == "call":
            if "t." + deed[2] in tables:
                return "Known", "t." + deed[2]
            tables["t." + deed[2]] = tables.pop(table)
        elif word in ("snap", "clone"):
            width, most, rows = tables[table]
            return self.new(("s." if word == "snap" else "t.") + deed[2], (width, most, dict(rows)))
        else:
            return getattr(self, word)(deed, *tables[table])
        return None

    def new(self, source, table):
        if source in self.tables:
            return "Known", source
        if len(self.tables) == 12:
            return "BookFull", 12
        self.tables[source] = table
        return None

    def put(self, deed, width, most, rows):
        _, _, name, numbers = deed
        if len(numbers) != width:
            return "BadWidth", width
        if name not in rows and len(rows) >= most:
            return "OverLimit", most
        rows[name] = numbers
        return None

    def drop(self, deed, _width, _most, rows):
        if deed[2] not in rows:
            return "NoName", deed[2]
        del rows[deed[2]]
        return None

    def rename(self, deed, _width, _most, rows):
        _, _, old, new = deed
        if old not in rows:
            return "NoName", old
        if new in rows:
            return "Known", new
        rows[new] = rows.pop(old)
        return None

    def shift(self, deed, width, _most, rows):
        _, _, name, i, by = deed
        if name not in rows:
            return "NoName", name
        if i >= width:
            return "BadNumber", i
        return self.grow(rows, name, i, by)

    def post(self, deed, width, _most, rows):
        _, _, name, i, source, other, j, sign = deed
        if source not in self.tables:
            return "NoTable", source
        if name not in rows:
            return "NoName", name
        if other not in self.tables[source][2]:
            return "NoName", other
        if i >= width:
            return "BadNumber", i
        if j >= self.tables[source][0]:
            return "BadNumber", j
        return self.grow(rows, name, i, sign * self.tables[source][2][other][j])

    def grow(self, rows, name, i, by):
        numbers = list(rows[name])
        numbers[i] += by
        if abs(numbers[i]) > MOST:
            return "TooGreat", numbers[i]
        rows[name] = tuple(numbers)
        return None

    def clear(self, deed, _width, _most, rows):
        for name in list(rows):
            if (deed[2] is None or deed[2] <= name) and (deed[3] is None or name < deed[3]):
                del rows[name]
        return None


# How often each word is drawn, in three moods.
MOODS = {
    "grow": {"put": 120, "drop": 10, "rename": 12, "shift": 8, "post": 10, "clear": 1, "make": 4, "end": 1, "call": 2, "snap": 5, "clone": 4, "fade": 3},
    "mixed": {"put": 60, "drop": 55, "rename": 30, "shift": 12, "post": 20, "clear": 2, "make": 4, "end": 2, "call": 3, "snap": 5, "clone": 4, "fade": 4},
    "shrink": {"put": 20, "drop": 120, "rename": 12, "shift": 5, "post": 8, "clear": 4, "make": 2, "end": 2, "call": 2, "snap": 4, "clone": 3, "fade": 4},
}


def some_storedeed(luck, dicts, names, mood="mixed", tables="abc", snapshots="xy"):
    """A store deed that can mostly be done."""
    word = luck.choices(list(MOODS[mood]), list(MOODS[mood].values()))[0]
    sources = sorted(dicts.tables)
    there = [source[2:] for source in sources if source[0] == "t"]
    snaps = [source[2:] for source in sources if source[0] == "s"] or list(snapshots)
    if not there or word == "make" and luck.random() < 0.7:
        word = "make" if not there else "put"
    table = luck.choice(there) if there and luck.random() < 0.98 else luck.choice(tables)
    width, _, rows = dicts.tables.get("t." + table, (1, 0, {}))

    def name(has=0.97, within=rows):
        known = sorted(within)
        return luck.choice(known) if known and luck.random() < has else luck.choice(names)

    def number():
        return luck.choice((0, 1, -1, 3, luck.randint(-99, 99), luck.randint(-99, 99), luck.randint(-99, 99), luck.choice((MOST, -MOST, 7, 8, 9))))

    if word == "make":
        return word, luck.choice(tables), luck.choice((1, 2)), luck.choice((400,) * 9 + (0, 30))
    if word == "call":
        return word, table, luck.choice(tables)
    if word == "snap":
        return word, table, luck.choice(snapshots)
    if word == "clone":
        return word, luck.choice(snaps), luck.choice(tables)
    if word == "fade":
        return word, luck.choice(snaps)
    if word == "end":
        return word, table
    if word == "put":
        return word, table, name(0.1), tuple(number() for _ in range(width if luck.random() < 0.98 else 3 - width))
    if word == "drop":
        return word, table, name()
    if word == "rename":
        return word, table, name(), name(0.02)
    if word == "shift":
        return word, table, name(), luck.randint(0, width - 1) if luck.random() < 0.95 else 1, number()
    if word == "post":
        source = luck.choice(sources) if luck.random() < 0.98 else luck.choice(("s.q", "t.a"))
        wide, _, others = dicts.tables.get(source, (1, 0, {}))
        i, j = luck.randint(0, width - 1), luck.randint(0, wide - 1)
        return word, table, name(), i if luck.random() < 0.98 else 1, source, name(0.98, others), j if luck.random() < 0.98 else 1, luck.choice((1, -1))
    if luck.random() < 0.2:
        return luck.choice((("clear", table, None, luck.choice(names)), ("clear", table, luck.choice(names), None), ("clear", table, None, None)))
    start = luck.randrange(len(names) - 1)
    return word, table, names[start], names[min(len(names) - 1, start + luck.randint(1, 25))]


def doing(view, plan):
    """The view behind the page deeds, done one by one."""
    pages = list(view)
    for deed in plan:
        pages[page_of(deed)] = done(deed, pages[page_of(deed)], lambda page: pages[page])
    return tuple(pages)


def outcome(call, *arguments):
    """What the call returns, and None; or None, and the name and the `what` of its error."""
    try:
        return call(*arguments), None
    except Refused as error:
        return None, (error.__class__.__name__, error.what)


class NoFreePage(Exception):
    pass


class Words:
    """The plans of [25], written down in the order of its sentences, without regard to how often a page is looked at."""

    def __init__(self, view, kept, manner):
        self.view = [dict(rows) for rows in view]
        self.plan = []
        self.arrows = {(page_of(deed), read) for deed in kept for read in reads_of(deed)}
        self.ringless = manner == "ringless"

    # What is read off the working view.

    def rows(self, page):
        return tuple(sorted(self.view[page].items()))

    def names_of(self, page):
        """How many rows name the page."""
        heights, waiting = {}, [value[:2] for value in self.view[0].values()]
        many = sum(1 for value in self.view[0].values() if value[0] == page)
        while waiting:
            branch, height = waiting.pop()
            if branch in heights or height == 0:
                continue
            heights[branch] = height
            many += sum(1 for value in self.view[branch].values() if value[0] == page)
            waiting += [(value[0], height - 1) for value in self.view[branch].values()]
        return many

    def fresh(self):
        for page in range(1, 32):
            if self.names_of(page) == 0:
                assert self.view[page] == {}
                return page
        raise NoFreePage()

    def way(self, source, name):
        """The pages of the way, and the lows under which they are named."""
        root, height, _, _ = self.view[0][source]
        pages, lows = [root], [None]
        for _ in range(height):
            low = max(low for low in self.view[pages[-1]] if low <= name)
            pages.append(self.view[pages[-1]][low][0])
            lows.append(low)
        return pages, lows

    def do(self, *deed):
        w = deed[1]
        before = self.rows(w)
        after = done(deed, before, self.rows)
        for a in reads_of(deed):
            reached, grown = set(), {a}
            while grown:
                grown = {there for here, there in self.arrows if here in grown} - reached
                reached |= grown
            if self.ringless and w in reached:
                if before == after:
                    return
                deed = ("carry", w, before, after)
        self.arrows |= {(w, a) for a in reads_of(deed)}
        self.plan.append(deed)
        self.view[w] = dict(after)

    # The lists.

    def own(self, source, name):
        _, height, _, _ = self.view[0][source]
        for depth in range(height + 1):
            pages, lows = self.way(source, name)
            p = pages[depth]
            if self.names_of(p) >= 2:
                q = self.fresh()
                if self.view[p]:
                    self.do("take", q, p, None, None)
                if depth == 0:
                    self.do("bump", 0, source, 0, q - p)
                else:
                    self.do("bump", pages[depth - 1], lows[depth], 0, q - p)

    def weigh(self, branch, low, child, is_branch, width, sign):
        if is_branch:
            self.do("tally", branch, low, 1, child, None, None, 1, sign)
        self.do("tally", branch, low, 2, child, None, None, 2 if is_branch else 0, sign)
        if width == 2:
            self.do("tally", branch, low, 3, child, None, None, 3 if is_branch else 1, sign)

    def carry_up(self, source, name, count, changes):
        pages, lows = self.way(source, name)
        for branch, low in zip(pages[:-1], lows[1:]):
            if count != 0:
                self.do("bump", branch, low, 1, count)
            for place, change in enumerate(changes):
                if change != 0:
                    self.do("bump", branch, low, 2 + place, change)

    def put_row(self, source, name, numbers):
        self.own(source, name)
        leaf = self.way(source, name)[0][-1]
        before = self.view[leaf].get(name)
        if before is None and len(self.view[leaf]) == 12:
            self.make_room(source, name)
            leaf = self.way(source, name)[0][-1]
        self.do("put", leaf, name, before, numbers)
        changes = numbers if before is None else [now - then for now, then in zip(numbers, before)]
        self.carry_up(source, name, 1 if before is None else 0, changes)

    def make_room(self, source, name):
        pages, _ = self.way(source, name)
        run = []
        while pages and len(self.view[pages[-1]]) == 12:
            run.insert(0, pages.pop())
        root, height, width, most = self.view[0][source]
        if root in run:
            g = self.fresh()
            self.do("put", g, ".", None, (root, 12 if height == 0 else 0, 0, 0))
            self.weigh(g, ".", root, height > 0, width, 1)
            self.do("put", 0, source, (root, height, width, most), (g, height + 1, width, most))
        for a in run:
            pages, lows = self.way(source, name)
            u, l = pages[pages.index(a) - 1], lows[pages.index(a)]
            is_leaf = a == pages[-1]
            m = self.rows(a)[6][0]
            b = self.fresh()
            self.do("take", b, a, m, None)
            self.do("drop", a, b, m, None)
            self.do("put", u, m, None, (b, 6 if is_leaf else 0, 0, 0))
            self.weigh(u, m, b, not is_leaf, width, 1)
            if is_leaf:
                self.do("bump", u, l, 1, -6)
            self.weigh(u, l, b, not is_leaf, width, -1)

    def drop_row(self, source, name):
        self.own(source, name)
        pages, lows = self.way(source, name)
        numbers = self.view[pages[-1]][name]
        self.do("put", pages[-1], name, numbers, None)
        self.carry_up(source, name, -1, [-number for number in numbers])
        for depth in range(len(pages) - 1, 0, -1):
            self.tidy(pages[depth], pages[depth - 1], lows[depth], len(pages) - 1 - depth)
        while self.view[0][source][1] > 0 and len(self.view[self.view[0][source][0]]) < 2:
            root, height, width, most = self.view[0][source]
            if not self.view[root]:
                self.do("put", 0, source, (root, height, width, most), (root, 0, width, most))
            else:
                low, value = self.rows(root)[0]
                self.do("put", 0, source, (root, height, width, most), (value[0], height - 1, width, most))
                if self.names_of(root) == 0:
                    self.do("put", root, low, value, None)

    def tidy(self, p, u, l, height):
        if not self.view[p]:
            was_first = l == min(self.view[u])
            self.do("put", u, l, self.view[u][l], None)
            if was_first and self.view[u]:
                self.do("rename", u, min(self.view[u]), l)
                self.take_low(u, l, height)
            return
        lows = sorted(self.view[u])
        place = lows.index(l)
        for left, right in ((place, place + 1), (place - 1, place)):
            if 0 <= left and right < len(lows) and self.can_join(u, lows[left], lows[right]):
                self.join(u, lows[left], lows[right])
                return

    def take_low(self, u, l, height):
        v = self.view[u][min(self.view[u])][0]
        while height > 0:
            if self.names_of(v) >= 2:
                q = self.fresh()
                self.do("take", q, v, None, None)
                self.do("bump", u, l, 0, q - v)
                v = q
            self.do("rename", v, min(self.view[v]), l)
            u, v, height = v, self.view[v][min(self.view[v])][0], height - 1

    def can_join(self, u, left, right):
        a, b = self.view[u][left][0], self.view[u][right][0]
        return len(self.view[a]) + len(self.view[b]) <= 8 and self.names_of(a) == 1

    def join(self, u, left, m):
        a, b = self.view[u][left][0], self.view[u][m][0]
        alone = self.names_of(b) == 1
        self.do("take", a, b, m, None)
        if alone:
            self.do("drop", b, a, m, None)
        for place in (1, 2, 3):
            if self.view[u][m][place] != 0:
                self.do("bump", u, left, place, self.view[u][m][place])
        self.do("put", u, m, self.view[u][m], None)

    def storedeed(self, deed):
        """Plans a store deed of which it is known that it is not refused, but for want of a page."""
        word = deed[0]
        source = ("s." if word in ("clone", "fade") else "t.") + deed[1]
        value = self.view[0].get(source)
        if word == "make":
            self.do("put", 0, source, None, (self.fresh(), 0, deed[2], deed[3]))
        elif word in ("end", "fade"):
            self.do("put", 0, source, value, None)
            for page in range(1, 32):
                if self.view[page] and self.names_of(page) == 0:
                    self.do("carry", page, self.rows(page), ())
        elif word == "call":
            self.do("rename", 0, source, "t." + deed[2])
        elif word in ("snap", "clone"):
            self.do("put", 0, ("s." if word == "snap" else "t.") + deed[2], None, value)
        else:
            getattr(self, "plan_" + word)(source, *deed[2:])

    def numbers(self, source, name):
        return self.view[self.way(source, name)[0][-1]].get(name)

    def plan_put(self, source, name, numbers):
        if self.numbers(source, name) != numbers:
            self.put_row(source, name, numbers)

    def plan_drop(self, source, name):
        self.drop_row(source, name)

    def plan_rename(self, source, old, new):
        if self.way(source, old)[0][-1] == self.way(source, new)[0][-1]:
            self.own(source, old)
            self.do("rename", self.way(source, old)[0][-1], old, new)
        else:
            numbers = self.numbers(source, old)
            self.drop_row(source, old)
            self.put_row(source, new, numbers)

    def plan_shift(self, source, name, i, by):
        if by != 0:
            self.own(source, name)
            self.do("bump", self.way(source, name)[0][-1], name, i, by)
            self.carry_up(source, name, 0, [0] * i + [by])

    def plan_post(self, source, name, i, other_source, other, j, sign):
        n = sign * self.numbers(other_source, other)[j]
        if n != 0:
            self.own(source, name)
            leaf, there = self.way(source, name)[0][-1], self.way(other_source, other)[0][-1]
            if leaf == there:
                self.do("bump", leaf, name, i, n)
            else:
                self.do("add", leaf, name, i, there, other, j, sign)
            self.carry_up(source, name, 0, [0] * i + [n])

    def plan_clear(self, source, low, high):
        for name in self.names_in(source, low, high):
            self.drop_row(source, name)

    def names_in(self, source, low, high):
        root, height, _, _ = self.view[0][source]
        pages = [root]
        for _ in range(height):
            pages = [value[0] for page in pages for _, value in self.rows(page)]
        names = [name for page in pages for name in sorted(self.view[page])]
        return [name for name in names if (low is None or low <= name) and (high is None or name < high)]


def by_the_words(view, deeds, kept, manner):
    """The plan of store deeds that are not refused, or None if there is no free page for it."""
    words = Words(view, kept, manner)
    try:
        for deed in deeds:
            words.storedeed(deed)
    except NoFreePage:
        return None
    return tuple(words.plan)


def view_of(*deeds):
    """The view behind store deeds, each done by itself on the blank view."""
    view = BLANK
    for deed in deeds:
        view = doing(view, planned(view, (deed,), (), "short"))
    return view

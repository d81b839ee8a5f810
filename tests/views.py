"""Sound views drawn by chance, also such as no store deeds make: with few rows in a page, high trees, and shared pages."""

from wendleaf.names import is_rowname

MOST = 10 ** 9
SIGNS = "0123456789abcdefghijklmnopqrstuvwxyz"


class NoRoom(Exception):
    pass


class Builder:
    """Pages that are filled one after another."""

    def __init__(self, luck):
        self.luck = luck
        self.pages = {page: () for page in range(32)}
        self.free = luck.sample(range(1, 32), 31)
        self.book = {}
        self.rows = {}

    def view(self):
        return tuple(tuple(sorted(self.book.items())) if page == 0 else self.pages[page] for page in range(32))

    def meaning(self):
        return tuple((source, value[2], value[3], self.rows[source]) for source, value in sorted(self.book.items()))

    def page(self):
        if not self.free:
            raise NoRoom()
        return self.free.pop()

    def numbers(self, width):
        luck = self.luck
        return tuple(luck.choice((0, luck.randint(-9, 9), luck.choice((MOST, -MOST)), luck.randint(-MOST, MOST))) for _ in range(width))

    def names(self, many, least="0", bound=None):
        """Names that are not less than the least and less than the bound."""
        luck = self.luck
        found = set()
        for _ in range(40 * many + 40):
            if len(found) == many:
                break
            start = luck.choice((least, "", "", ""))
            name = (start + "".join(luck.choice(SIGNS) for _ in range(luck.choice((1, 2, 2, 3, 12)))))[:12]
            if least <= name and (bound is None or name < bound):
                found.add(name)
        return sorted(found)

    def tree(self, rows, height, width, low):
        """The page of a tree with these rows (at least one, unless it is a leaf)."""
        page = self.page()
        if height == 0:
            if len(rows) > 12:
                raise NoRoom()
            self.pages[page] = rows
            return page
        luck = self.luck
        least = max(1, -(-len(rows) // 12 ** height))
        many = min(len(rows), 12, luck.choice((least, least + 1, luck.randint(1, 4))))
        cuts = [0] + sorted(luck.sample(range(1, len(rows)), many - 1)) + [len(rows)]
        if len(rows) > 30:
            cuts = [len(rows) * place // many for place in range(many)] + [len(rows)]
        found = []
        for start, end in zip(cuts, cuts[1:]):
            beneath = rows[start:end]
            own = low if start == 0 else self.low_between(rows[start - 1][0], beneath[0][0])
            found.append((own, (self.tree(beneath, height - 1, width, own),) + sums_of(beneath, width)))
        self.pages[page] = tuple(found)
        return page

    def low_between(self, before, name):
        """A low above the one name and not above the other."""
        low = self.luck.choice((name, name, name[:-1], before + "0"))
        return low if is_rowname(low) and before < low <= name else name

    def table(self, source, many, height):
        luck = self.luck
        width = luck.choice((1, 2))
        rows = tuple((name, self.numbers(width)) for name in self.names(many))
        if not rows:
            height = 0
        most = luck.choice((400, len(rows), luck.randint(len(rows), 400)))
        self.book[source] = (self.tree(rows, height, width, "."), height, width, most)
        self.rows[source] = rows

    def copy(self, source, new):
        """A source with just the pages of another one."""
        root, height, width, most = self.book[source]
        self.book[new] = (root, height, width, most if new[0] == "s" else max(most, len(self.rows[source])))
        self.rows[new] = self.rows[source]

    def changed(self, source, new):
        """A source that shares with another one all but the pages on the way of one leaf, which has other numbers there."""
        root, height, width, most = self.book[source]
        numbers = []
        copy = self.copied_way(root, height, width, numbers)
        self.book[new] = (copy, height, width, max(most, len(self.rows[source])))
        told = dict(self.rows[source])
        told.update(dict(numbers))
        self.rows[new] = tuple(sorted(told.items()))

    def copied_way(self, page, height, width, numbers):
        rows = self.pages[page]
        new = self.page()
        if height == 0:
            numbers.extend((name, self.numbers(width)) for name, _ in rows)
            self.pages[new] = tuple(numbers)
            return new
        place = self.luck.randrange(len(rows))
        low, value = rows[place]
        child = self.copied_way(value[0], height - 1, width, numbers)
        self.pages[new] = rows[:place] + ((low, (child,) + self.sums_beneath(child, height - 1, width)),) + rows[place + 1:]
        return new

    def sums_beneath(self, page, height, width):
        if height == 0:
            return sums_of(self.pages[page], width)
        sums = [self.sums_beneath(value[0], height - 1, width) for _, value in self.pages[page]]
        return tuple(sum(each) for each in zip(*sums))

    def part(self, source, new):
        """A source whose root is a page at the left edge of another one's tree."""
        page, height, width, _ = self.book[source]
        while height > 0 and self.luck.random() < 0.7:
            page, height = self.pages[page][0][1][0], height - 1
        rows = self.rows_beneath(page, height)
        self.book[new] = (page, height, width, self.luck.randint(len(rows), 400))
        self.rows[new] = rows

    def rows_beneath(self, page, height):
        if height == 0:
            return self.pages[page]
        return tuple(row for _, value in self.pages[page] for row in self.rows_beneath(value[0], height - 1))


def sums_of(rows, width):
    """The count, the first sum and the second one of rows of a table."""
    return len(rows), sum(value[0] for _, value in rows), sum(value[1] for _, value in rows) if width == 2 else 0


def drawn(luck, most_rows=30):
    """A builder that has drawn a sound view of one to four tables, and of some sources that share their pages."""
    while True:
        builder = Builder(luck)
        try:
            for name in luck.sample("abcd", luck.randint(1, 4)):
                builder.table("t." + name, luck.choice((0, 1, luck.randint(0, most_rows), luck.randint(0, most_rows))), luck.choice((0, 1, 1, 2, 2, 3, 4)))
            for name in luck.sample("wxyz", luck.randint(0, 3)):
                share = luck.choice((builder.copy, builder.changed, builder.part))
                share(luck.choice(sorted(builder.book)), luck.choice(("s.", "s.", "t.")) + name)
            return builder
        except NoRoom:
            continue

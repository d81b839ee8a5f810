import unittest

from samples import THINGS, chance, refusal
from tables_model import BLANK, view_of
from views import drawn
from wendleaf.names import is_rowname, is_source
from wendleaf.sums import count, nth, total
from wendleaf.trees import free_pages, get, own_pages, references, shared, table_row, walk, way

NO_NAMES = (0, 5, True, False, "", ".", "a.b", "A", "abcdefghijklm", ("a",), (), -1, "-", "zz\n")


class Looks:
    """A look at a view that counts its calls."""

    def __init__(self, pages):
        self.pages = pages
        self.calls = 0
        self.seen = set()

    def look(self, page):
        if not 0 <= page <= 31:
            raise AssertionError(page)
        self.calls += 1
        self.seen.add(page)
        return self.pages[page]


def pages_within(pages, source, low, high):
    """The pages below the root whose names, as the branches tell, all lie in the range; and those that are below them."""
    found = set()

    def follow(page, height, first, end, inside):
        if inside:
            found.add(page)
        if height > 0:
            lows = [each for each, _ in pages[page]]
            for (own, value), behind in zip(pages[page], lows[1:] + [end]):
                lies = (low is None or low <= own) and (high is None or behind is not None and behind <= high)
                follow(value[0], height - 1, own, behind, inside or lies)

    root, height, _, _ = dict(pages[0])[source]
    follow(root, height, ".", None, False)
    return found


def parents_of(pages):
    """All rows that name a page, each once: the page, the key and the child; found by following every way."""
    found = set()

    def follow(page, height):
        if height > 0:
            for low, value in pages[page]:
                found.add((page, low, value[0]))
                follow(value[0], height - 1)

    for source, value in pages[0]:
        found.add((0, source, value[0]))
        follow(value[0], value[1])
    return found


def reached(pages, source):
    """The pages that the source reaches."""
    found = set()

    def follow(page, height):
        found.add(page)
        if height > 0:
            for _, value in pages[page]:
                follow(value[0], height - 1)

    value = dict(pages[0])[source]
    follow(value[0], value[1])
    return found


class Trees(unittest.TestCase):
    def setUp(self):
        self.luck = chance(31)

    def views(self, many, most_rows=40):
        for _ in range(many):
            builder = drawn(self.luck, most_rows)
            yield builder, builder.view()

    def bounds(self, rows):
        """Bounds of a range: None, names that are there, and others."""
        names = [name for name, _ in rows] + ["0", "a", "m5", "zzzzzzzzzzzz", "5"]
        return [None, None] + self.luck.sample(names, min(5, len(names)))

    def test_references_and_free_pages(self):
        self.assertEqual(references(BLANK.__getitem__), (0,) * 32)
        self.assertEqual(free_pages(BLANK.__getitem__), tuple(range(1, 32)))
        seen = set()
        for _, pages in self.views(150):
            named = [child for _, _, child in parents_of(pages)]
            expected = tuple(named.count(page) for page in range(32))
            self.assertEqual(references(pages.__getitem__), expected)
            self.assertEqual(free_pages(pages.__getitem__), tuple(page for page in range(1, 32) if expected[page] == 0))
            seen |= set(expected)
        self.assertGreaterEqual(seen, {0, 1, 2, 3})

    def test_the_rows_of_a_branch_count_once(self):
        pages = list(view_of(*[("make", "a", 1, 400)] + [("put", "a", f"k{n:02}", (n,)) for n in range(30)] + [("snap", "a", "s"), ("snap", "a", "u")]))
        many = references(pages.__getitem__)
        root = pages[0][0][1][0]
        self.assertEqual(many[root], 3)
        self.assertEqual([many[value[0]] for _, value in pages[root]], [1] * len(pages[root]))
        self.assertEqual(many[0], 0)

    def test_rows_of_the_book(self):
        for builder, pages in self.views(30):
            for source, value in builder.book.items():
                self.assertEqual(table_row(pages.__getitem__, source), value)
            for source in THINGS + ("t.none", "s.none", "k", "."):
                self.assertIs(table_row(pages.__getitem__, source), None)

    def test_ways(self):
        for builder, pages in self.views(80):
            for source, rows in builder.rows.items():
                root, height, _, _ = builder.book[source]
                for name in [name for name, _ in rows] + ["0", "mm", "zzzzzzzzzzzz"]:
                    found = way(pages.__getitem__, source, name)
                    self.assertEqual((len(found), found[0]), (height + 1, (root, None)))
                    for (page, _), (child, low) in zip(found, found[1:]):
                        self.assertEqual(low, max(each for each, _ in pages[page] if each <= name))
                        self.assertEqual(child, dict(pages[page])[low][0])
                    if name in dict(rows):
                        self.assertIn(name, dict(pages[found[-1][0]]))

    def test_get(self):
        for builder, pages in self.views(80):
            for source, rows in builder.rows.items():
                for name, numbers in rows:
                    self.assertEqual(get(pages.__getitem__, source, name), numbers)
                for name in ("0", "a", "mm", "zzzzzzzzzzzz", rows[0][0] + "0" if rows else "q"):
                    self.assertEqual(get(pages.__getitem__, source, name), dict(rows).get(name))
                for name in NO_NAMES + (None,):
                    self.assertIs(get(pages.__getitem__, source, name), None)

    def test_ranges(self):
        for builder, pages in self.views(80):
            look = pages.__getitem__
            for source, rows in builder.rows.items():
                width = builder.book[source][2]
                for low in self.bounds(rows):
                    for high in self.bounds(rows):
                        inside = tuple(row for row in rows if (low is None or low <= row[0]) and (high is None or row[0] < high))
                        self.assertEqual(walk(look, source, low, high), inside)
                        self.assertEqual(count(look, source, low, high), len(inside))
                        for i in range(width):
                            self.assertEqual(total(look, source, i, low, high), sum(numbers[i] for _, numbers in inside))

    def test_nth(self):
        for builder, pages in self.views(80):
            for source, rows in builder.rows.items():
                self.assertEqual(tuple(nth(pages.__getitem__, source, k) for k in range(len(rows))), tuple(name for name, _ in rows))
                for k in (-1, len(rows), len(rows) + 1, 10 ** 9, -10 ** 9):
                    self.assertEqual(refusal(nth, pages.__getitem__, source, k), ("BadNumber", k))

    def test_own_and_shared_pages(self):
        some = 0
        for builder, pages in self.views(120):
            look = pages.__getitem__
            for source in builder.book:
                others = set().union(*[reached(pages, other) for other in builder.book if other != source])
                self.assertEqual(own_pages(look, source), tuple(sorted(reached(pages, source) - others)))
                without = (tuple(row for row in pages[0] if row[0] != source),) + pages[1:]
                freed = set(free_pages(without.__getitem__)) - set(free_pages(look))
                self.assertEqual(own_pages(look, source), tuple(sorted(freed)))
                for other in builder.book:
                    both = tuple(sorted(reached(pages, source) & reached(pages, other)))
                    self.assertEqual(shared(look, source, other), both)
                    some += source != other and both != ()
        self.assertGreater(some, 50)

    def test_how_often_the_look_is_called(self):
        heights = set()
        for builder, pages in self.views(120, 60):
            for source, rows in builder.rows.items():
                height, width = builder.book[source][1:3]
                heights.add(height)
                for name in [name for name, _ in rows] + ["0", "zz", ".", None]:
                    looks = Looks(pages)
                    get(looks.look, source, name)
                    self.assertLessEqual(looks.calls, 2 + height)
                for k in range(len(rows)):
                    looks = Looks(pages)
                    nth(looks.look, source, k)
                    self.assertLessEqual(looks.calls, 2 + height)
                for low in self.bounds(rows):
                    for high in self.bounds(rows):
                        looks = Looks(pages)
                        count(looks.look, source, low, high)
                        self.assertLessEqual(looks.calls, 2 + 2 * height)
                        looks = Looks(pages)
                        total(looks.look, source, width - 1, low, high)
                        self.assertLessEqual(looks.calls, 2 + 2 * height)
                looks = Looks(pages)
                count(looks.look, source, None, None)
                self.assertLessEqual(looks.calls, 2)
        self.assertEqual(heights, {0, 1, 2, 3, 4})


    def test_children_that_lie_in_the_range_as_a_whole_are_not_looked_at(self):
        skipped = 0
        for builder, pages in self.views(120, 60):
            for source, rows in builder.rows.items():
                lows = [low for page in range(1, 32) for low, value in pages[page] if len(value) == 4 and low != "."]
                for low in self.bounds(rows) + lows[:4]:
                    for high in self.bounds(rows) + lows[:4]:
                        inside = pages_within(pages, source, low, high)
                        for call, ahead in ((count, ()), (total, (0,))):
                            looks = Looks(pages)
                            call(looks.look, source, *ahead, low, high)
                            self.assertEqual(looks.seen & inside, set())
                            self.assertLessEqual(looks.calls, 2 + 2 * builder.book[source][1])
                        skipped += len(inside)
        self.assertGreater(skipped, 1000)


class Refusals(unittest.TestCase):
    VIEW = view_of(("make", "a", 1, 400), ("put", "a", "k", (5,)), ("snap", "a", "s"), ("make", "b", 2, 0))

    def refused(self, error, call, *arguments):
        self.assertEqual(refusal(call, self.VIEW.__getitem__, *arguments), error)

    def test_sources_first(self):
        for source in ("t.c", "s.a", "a", "t.", "", ".", "t.k", None, 5, True, (), ("t.a",)) + THINGS:
            missing = ("NoTable", source)
            self.refused(missing, get, source, None)
            self.refused(missing, walk, source, ".", ".")
            self.refused(missing, count, source, ".", 5)
            self.refused(missing, total, source, -1, ".", ".")
            self.refused(missing, nth, source, -1)
            self.refused(missing, own_pages, source)
            self.refused(missing, shared, source, "t.z")
            self.refused(missing, shared, "t.a", source)
            if not is_source(source):
                self.refused(missing, way, source, "k")
        self.refused(("NoTable", "t.x"), shared, "t.x", "t.y")

    def test_bounds_of_ranges(self):
        for bound in NO_NAMES + THINGS:
            if bound is None or is_rowname(bound):
                continue
            for call, ahead in ((walk, ()), (count, ()), (total, (0,))):
                self.refused(("BadStretch", 0), call, "t.a", *ahead, bound, None)
                self.refused(("BadStretch", 0), call, "t.a", *ahead, bound, bound)
                self.refused(("BadStretch", 1), call, "t.a", *ahead, None, bound)
                self.refused(("BadStretch", 1), call, "t.a", *ahead, "z", bound)

    def test_numbers_ahead_of_bounds(self):
        for i in (-1, 1, 2, 10 ** 9):
            self.refused(("BadNumber", i), total, "t.a", i, ".", None)
            self.refused(("BadNumber", i), total, "s.s", i, None, ".")
        self.refused(("BadNumber", 2), total, "t.b", 2, None, None)
        self.assertEqual(total(self.VIEW.__getitem__, "t.b", 1, None, None), 0)
        for i in (True, False, None, "0"):
            self.refused(("BadNumber", i), total, "t.a", i, ".", None)
            self.refused(("BadNumber", i), nth, "t.a", i)
        self.refused(("BadNumber", 0), nth, "t.b", 0)
        self.refused(("BadNumber", 1), nth, "s.s", 1)
        self.assertEqual(nth(self.VIEW.__getitem__, "s.s", 0), "k")

    def test_ranges_that_do_not_rise_are_empty(self):
        look = self.VIEW.__getitem__
        for low, high in (("k", "k"), ("z", "a"), ("l", "k")):
            self.assertEqual((walk(look, "t.a", low, high), count(look, "t.a", low, high), total(look, "t.a", 0, low, high)), ((), 0, 0))
        self.assertEqual((walk(look, "t.a", "k", "k0"), count(look, "t.a", "k", "l"), total(look, "t.a", 0, None, "k0")), ((("k", (5,)),), 1, 5))


if __name__ == "__main__":
    unittest.main()

import unittest

from samples import DEEP, THINGS, chance
from views import drawn
from wendleaf.checker import faults, meaning, sound
from wendleaf.names import is_numbers, is_rowname, is_source
from wendleaf.rows import is_rows

BLANK = ((),) * 32
MOST = 10 ** 9


def view(**pages):
    """A view with these pages: `p3` stands for page 3."""
    return tuple(pages.get(f"p{page}", ()) for page in range(32))


def leaf(*names):
    return tuple((name, (5,)) for name in names)


def plain_faults(thing):
    """The phases of [23], phase by phase by the words of the document, on every way."""
    if not isinstance(thing, tuple) or len(thing) != 32:
        return (("rows", -1),)
    meetings, entered = [], set()

    def meet(page, height, width, parent):
        meetings.append((page, height, width, parent))
        if page in entered:
            return
        entered.add(page)
        if height > 0 and has_shape(thing[page]):
            for _, value in thing[page]:
                if 1 <= value[0] <= 31:
                    meet(value[0], height - 1, width, page)

    def has_shape(rows):
        return 1 <= len(rows) <= 12 and all((key == "." or is_rowname(key)) and len(value) == 4 for key, value in rows)

    def beneath(page, height):
        if height == 0:
            return list(thing[page])
        return [row for _, value in thing[page] for row in beneath(value[0], height - 1)]

    def bounds(page, height, low, bound):
        """All faults of phase low on the ways through the page."""
        if height == 0:
            return {("low", page, key) for key, _ in thing[page] if key < low or bound is not None and key >= bound}
        found = set() if thing[page][0][0] == low else {("low", page, thing[page][0][0])}
        for place, (own, value) in enumerate(thing[page]):
            found |= bounds(value[0], height - 1, own, thing[page][place + 1][0] if place + 1 < len(thing[page]) else bound)
        return found

    def sums(page, height, width):
        rows = beneath(page, height)
        return len(rows), sum(value[0] for _, value in rows), sum(value[1] for _, value in rows) if width == 2 else 0

    found = {("rows", page) for page in range(32) if not is_rows(thing[page])}
    if found:
        return tuple(sorted(found))
    for key, value in thing[0]:
        right = len(value) == 4 and 1 <= value[0] <= 31 and 0 <= value[1] <= 4 and 1 <= value[2] <= 2 and 0 <= value[3] <= 400
        if not is_source(key) or not right:
            found.add(("book", key))
    if found:
        return tuple(sorted(found))
    for _, (root, height, width, _) in thing[0]:
        meet(root, height, width, None)
    found = {("level", page) for page in entered if len({each[1] for each in meetings if each[0] == page}) > 1
             or len({each[2] for each in meetings if each[0] == page}) > 1}
    if found:
        return tuple(sorted(found))
    for page, height, width, parent in meetings:
        rows = thing[page]
        if height > 0 and (not has_shape(rows) or any(not 1 <= value[0] <= 31 for _, value in rows)):
            found.add(("form", page))
        if height == 0 and any(not is_rowname(key) or not is_numbers(value, width) for key, value in rows):
            found.add(("form", page))
        if height == 0 and not rows and parent is not None:
            found.add(("form", page))
    if found:
        return tuple(sorted(found))
    for _, (root, height, _, _) in thing[0]:
        if height > 0:
            found |= bounds(root, height, ".", None)
    if found:
        return tuple(sorted(found))
    for page, height, width, _ in meetings:
        if height > 0:
            found |= {("sum", page, low) for low, value in thing[page] if value[1:] != sums(value[0], height - 1, width)}
    for source, (root, height, _, most) in thing[0]:
        if source[0] == "t" and len(beneath(root, height)) > most:
            found.add(("most", source))
    if found:
        return tuple(sorted(found))
    return tuple(("left", page) for page in range(1, 32) if page not in entered and thing[page])


# Table a: root 1 with the leaves 2 and 3; snapshot s: a root 4 of its own, and the same leaves.
ROOT = ((".", (2, 2, 10, 0)), ("m", (3, 1, 5, 0)))
TREE = {"p0": (("s.s", (4, 1, 1, 9)), ("t.a", (1, 1, 1, 9))), "p1": ROOT, "p2": leaf("a", "b"), "p3": leaf("m"), "p4": ROOT}


def tree(**pages):
    return view(**{**TREE, **pages})


class Sound(unittest.TestCase):
    def check(self, thing, expected):
        self.assertEqual(faults(thing), expected)
        self.assertIs(sound(thing), expected == ())

    def test_the_blank_view(self):
        self.check(BLANK, ())
        self.assertEqual(meaning(BLANK), ())

    def test_a_small_one(self):
        self.check(tree(), ())
        rows = (("a", (5,)), ("b", (5,)), ("m", (5,)))
        self.assertEqual(meaning(tree()), (("s.s", 1, 9, rows), ("t.a", 1, 9, rows)))

    def test_many(self):
        luck = chance(1)
        heights = set()
        for count in range(250):
            builder = drawn(luck, 120 if count % 10 == 0 else 30)
            self.check(builder.view(), ())
            self.assertEqual(plain_faults(builder.view()), ())
            self.assertEqual(meaning(builder.view()), builder.meaning())
            heights |= {value[1] for _, value in builder.view()[0]}
        self.assertEqual(heights, {0, 1, 2, 3, 4})

    def test_empty_tables(self):
        self.check(view(p0=(("s.x", (7, 0, 2, 0)), ("t.a", (7, 0, 2, 0)), ("t.b", (31, 0, 1, 400)))), ())

    def test_a_root_with_one_row(self):
        self.check(view(p0=(("t.a", (1, 1, 1, 9)),), p1=((".", (2, 1, 5, 0)),), p2=leaf("m")), ())
        self.check(view(p0=(("t.a", (1, 2, 1, 9)),), p1=((".", (2, 1, 5, 0)),), p2=((".", (3, 1, 5, 0)),), p3=leaf("m")), ())

    def test_no_views(self):
        for thing in THINGS + ((BLANK,), BLANK[:31], BLANK + ((),), DEEP, list(BLANK)):
            self.check(thing, (("rows", -1),))


class Phases(unittest.TestCase):
    def check(self, thing, *expected):
        self.assertEqual(faults(thing), expected)
        self.assertEqual(plain_faults(thing), expected)
        self.assertIs(sound(thing), False)

    def test_rows(self):
        for thing in (None, 5, "", "a", True, (1,), ("a",), (("a", 1),), (("a", (1,)), ("a", (1,))), (("b", (1,)), ("a", (1,))), DEEP,
                      (("A", (1,)),), (("a", (10 ** 12 + 1,)),), tuple((f"k{n:02}", (n,)) for n in range(13)), (("a", (True,)),)):
            self.check(tree(p9=thing), ("rows", 9))
            self.check(tree(p0=thing, p31=thing, p2=leaf("Z")), ("rows", 0), ("rows", 2), ("rows", 31))
        for thing in THINGS:
            if not is_rows(thing):
                self.check((thing,) * 32, *[("rows", page) for page in range(32)])

    def test_book(self):
        good = (1, 0, 1, 9)
        for key in ("a", "t", ".", "t.", "u.a", "t.abcdefg", "t.a.b", "st.a", "t..", "s..a"):
            self.check(view(p0=((key, good),)), ("book", key))
        for value in ((1,), (1, 0), (1, 0, 1), (0, 0, 1, 9), (32, 0, 1, 9), (-1, 0, 1, 9), (1, -1, 1, 9), (1, 5, 1, 9), (1, 0, 0, 9), (1, 0, 3, 9),
                      (1, 0, 1, -1), (1, 0, 1, 401)):
            self.check(view(p0=(("t.a", value),)), ("book", "t.a"))
            self.check(tree(p0=(("a", good), ("s.s", value), ("t.a", value), ("t.b", good)), p9=leaf("x"), p1=()),
                       ("book", "a"), ("book", "s.s"), ("book", "t.a"))
        for value in ((1, 0, 1, 0), (31, 0, 2, 400)):
            self.assertEqual(faults(view(p0=(("t.a", value),))), ())

    def test_level_heights(self):
        self.check(tree(p0=(("t.a", (1, 1, 1, 9)), ("t.b", (2, 1, 1, 9)))), ("level", 2))
        self.check(tree(p0=(("t.a", (1, 1, 1, 9)), ("t.b", (1, 0, 1, 9)))), ("level", 1))
        self.check(tree(p0=(("t.a", (1, 2, 1, 9)), ("t.b", (1, 1, 1, 9)))), ("level", 1))
        # Page 2 names page 2 itself, and page 1.
        self.check(view(p0=(("t.a", (1, 3, 1, 9)),), p1=((".", (2, 1, 5, 0)),), p2=((".", (2, 1, 1, 1)), ("m", (1, 1, 1, 1)))), ("level", 1), ("level", 2))

    def test_level_widths(self):
        self.check(tree(p0=(("t.a", (1, 1, 1, 9)), ("t.b", (2, 0, 2, 9)))), ("level", 2))
        self.check(tree(p0=(("s.s", (4, 1, 1, 9)), ("t.a", (1, 1, 2, 9)))), ("level", 2), ("level", 3))
        self.check(tree(p0=(("t.a", (9, 0, 1, 9)), ("t.b", (9, 0, 2, 9)))), ("level", 9))

    def test_a_page_is_entered_with_its_first_height(self):
        book = (("t.a", (1, 0, 1, 9)), ("t.b", (1, 1, 1, 9)))
        self.check(view(p0=book, p1=((".", (1, 1, 1, 1)), ("m", (1, 1, 1, 1)))), ("level", 1))
        self.check(view(p0=book, p1=((".", (2, 1, 1, 1)), ("m", (2, 1, 1, 1)))), ("level", 1))
        # Met first with height 1, page 1 names page 3 with height 0; with height 2 it is not entered again.
        book = (("t.a", (1, 1, 1, 9)), ("t.b", (2, 2, 1, 9)), ("t.c", (3, 1, 1, 9)))
        self.check(view(p0=book, p1=((".", (3, 1, 5, 0)),), p2=((".", (1, 1, 5, 0)),), p3=leaf("b")), ("level", 3))
        book = (("t.a", (2, 3, 1, 9)), ("t.b", (1, 1, 1, 9)))
        self.check(view(p0=book, p1=((".", (3, 1, 5, 0)),), p2=((".", (1, 1, 5, 0)),), p3=leaf("b")), ("level", 1))

    def test_form_of_branches(self):
        for rows in ((), (("t.a", (2, 1, 5, 0)),), ((".", (2, 1, 5)),), ((".", (2,)),), (("..", (2, 1, 5, 0)),)):
            self.check(tree(p1=rows), ("form", 1))
        for child in (0, 32, -1, 10 ** 12):
            self.check(tree(p1=(ROOT[0], ("m", (child, 1, 5, 0)))), ("form", 1))
            self.check(tree(p1=((".", (child, 1, 5, 0)),)), ("form", 1))
        self.check(tree(p1=((".", (0, 1, 5, 0)), ("m", (32, 1, 5, 0))), p4=(), p2=()), ("form", 1), ("form", 4))

    def test_form_of_leaves(self):
        for rows in ((), (("a.b", (5,)),), ((".", (5,)),), (("a", (1, 2)),), (("a", (MOST + 1,)),), (("a", (1, 2, 3, 4)),)):
            self.check(tree(p2=rows), ("form", 2))
            self.check(tree(p2=rows, p3=rows), ("form", 2), ("form", 3))
        self.check(view(p0=(("t.a", (1, 0, 2, 9)),), p1=leaf("a")), ("form", 1))
        self.check(tree(p2=(), p0=TREE["p0"] + (("t.b", (2, 0, 1, 9)),)), ("form", 2))
        self.assertEqual(faults(view(p0=(("t.a", (1, 0, 1, 9)), ("t.b", (1, 0, 1, 9))))), ())

    def test_low(self):
        self.check(tree(p1=(("a", (2, 2, 10, 0)), ROOT[1])), ("low", 1, "a"))
        self.check(tree(p2=leaf("a", "m")), ("low", 2, "m"))
        self.check(tree(p2=leaf("a", "n", "z"), p3=leaf("l")), ("low", 2, "n"), ("low", 2, "z"), ("low", 3, "l"))
        self.check(tree(p3=leaf("a", "m")), ("low", 3, "a"))
        self.check(tree(p1=(ROOT[0], ("c", (3, 1, 5, 0))), p3=leaf("d")), ("low", 3, "d"))

    def test_low_of_inner_branches(self):
        book = (("t.a", (1, 2, 1, 9)),)
        pages = {
            "p1": ((".", (2, 2, 10, 0)), ("m", (3, 2, 10, 0))), "p2": ((".", (4, 1, 5, 0)), ("f", (5, 1, 5, 0))),
            "p3": (("m", (6, 1, 5, 0)), ("t", (7, 1, 5, 0))), "p4": leaf("a"), "p5": leaf("f"), "p6": leaf("m"), "p7": leaf("z")}
        self.assertEqual(faults(view(p0=book, **pages)), ())
        for own in (".", "a", "n"):
            self.check(view(p0=book, **{**pages, "p3": ((own, (6, 1, 5, 0)), ("t", (7, 1, 5, 0))), "p6": leaf("o")}), ("low", 3, own))
        # The bound of the last leaf of the first branch is the next low of the root.
        self.check(view(p0=book, **{**pages, "p5": leaf("f", "m")}), ("low", 5, "m"))
        self.check(view(p0=book, **{**pages, "p5": leaf("e", "l", "n")}), ("low", 5, "e"), ("low", 5, "n"))
        self.assertEqual(faults(view(p0=book, **{**pages, "p7": leaf("t")})), ())
        self.check(view(p0=book, **{**pages, "p7": leaf("s")}), ("low", 7, "s"))

    def test_a_shared_page_that_is_right_on_one_way_only(self):
        book = (("t.a", (1, 1, 1, 9)), ("t.b", (4, 1, 1, 9)))
        one = ((".", (2, 1, 5, 0)), ("m", (3, 1, 5, 0)))
        two = ((".", (2, 1, 5, 0)), ("f", (3, 1, 5, 0)))
        pages = {"p1": one, "p2": leaf("a"), "p3": leaf("n"), "p4": two}
        self.assertEqual(faults(view(p0=book, **pages)), ())
        self.check(view(p0=book, **{**pages, "p3": leaf("g")}), ("low", 3, "g"))
        self.check(view(p0=book, **{**pages, "p2": leaf("g")}), ("low", 2, "g"))
        self.check(view(p0=book, **{**pages, "p3": leaf("a")}), ("low", 3, "a"))
        both = (("t.a", (1, 1, 1, 9)), ("t.b", (3, 0, 1, 9)))
        self.check(view(p0=both, p1=one, p2=leaf("a"), p3=leaf("g")), ("low", 3, "g"))
        # A branch under two lows.
        book = (("t.a", (1, 2, 1, 9)),)
        rows = ((".", (2, 1, 5, 0)), ("m", (2, 1, 5, 0)))
        self.check(view(p0=book, p1=rows, p2=((".", (3, 1, 5, 0)),), p3=leaf("a")), ("low", 2, "."))

    def test_sum(self):
        for value in ((2, 1, 10, 0), (2, 3, 10, 0), (2, 2, 11, 0), (2, 2, 9, 0), (2, 2, 10, 1), (2, 0, 0, 0)):
            self.check(tree(p1=((".", value), ROOT[1])), ("sum", 1, "."))
            self.check(tree(p1=((".", value), ("m", (3, 1, 5, 1))), p4=((".", value), ROOT[1])), ("sum", 1, "."), ("sum", 1, "m"), ("sum", 4, "."))
        book = (("t.a", (1, 1, 2, 9)),)
        two = (("a", (1, 2)), ("b", (3, -4)))
        self.assertEqual(faults(view(p0=book, p1=((".", (2, 2, 4, -2)),), p2=two)), ())
        self.check(view(p0=book, p1=((".", (2, 2, 4, 0)),), p2=two), ("sum", 1, "."))

    def test_most(self):
        self.check(tree(p0=(("s.s", (4, 1, 1, 2)), ("t.a", (1, 1, 1, 2)))), ("most", "t.a"))
        self.assertEqual(faults(tree(p0=(("s.s", (4, 1, 1, 0)), ("t.a", (1, 1, 1, 3))))), ())
        self.check(view(p0=(("t.a", (1, 0, 1, 0)),), p1=leaf("a")), ("most", "t.a"))
        self.check(tree(p0=(("s.s", (4, 1, 1, 2)), ("t.a", (1, 1, 1, 2))), p1=((".", (2, 1, 10, 0)), ROOT[1])), ("most", "t.a"), ("sum", 1, "."))

    def test_left(self):
        self.check(tree(p9=leaf("a")), ("left", 9))
        self.check(tree(p9=leaf("a"), p31=(("t.a", (1,)),), p5=ROOT), ("left", 5), ("left", 9), ("left", 31))
        self.check(view(p1=leaf("a")), ("left", 1))
        # What only a page without a reference names is free, too.
        self.check(view(p5=((".", (6, 1, 5, 0)),), p6=leaf("a")), ("left", 5), ("left", 6))

    def test_an_earlier_phase_hides_the_later_ones(self):
        left = {"p9": leaf("x")}
        summed = {**left, "p1": ((".", (2, 7, 10, 0)), ROOT[1])}
        lowered = {**summed, "p3": leaf("c")}
        formed = {**lowered, "p4": ()}
        levelled = {**formed, "p0": (("s.s", (4, 1, 1, 9)), ("t.a", (1, 1, 1, 9)), ("t.b", (3, 1, 1, 9)))}
        booked = {**levelled, "p0": levelled["p0"] + (("x", (1,)),)}
        for pages, expected in ((left, ("left", 9)), (summed, ("sum", 1, ".")), (lowered, ("low", 3, "c")), (formed, ("form", 4)),
                                (levelled, ("level", 3)), (booked, ("book", "x")), ({**booked, "p7": None}, ("rows", 7))):
            self.check(tree(**pages), expected)

    def test_views_with_something_changed(self):
        luck = chance(2)
        seen = {}
        for _ in range(3000):
            changed = self.changed(luck, drawn(luck, 15).view())
            expected = plain_faults(changed)
            self.assertEqual(faults(changed), expected)
            for fault in expected:
                seen[fault[0]] = seen.get(fault[0], 0) + 1
        for phase in ("book", "level", "form", "low", "sum", "most", "left"):
            self.assertGreater(seen.get(phase, 0), 20, phase)

    def changed(self, luck, pages):
        """The view with one to three changes at chosen places."""
        pages = list(pages)
        for _ in range(luck.randint(1, 3)):
            filled = [page for page in range(32) if pages[page]]
            if not filled:
                continue
            page = luck.choice(filled + [filled[0]] * 2)
            place = luck.randrange(len(pages[page]))
            key, value = pages[page][place]
            item = luck.choice((len(value) - 1, luck.randrange(len(value))))
            numbers = value[:item] + (luck.choice((value[item] + 1, value[item] - 1, luck.randint(0, 32), 0)),) + value[item + 1:]
            new = luck.choice((
                ((key, numbers),), ((key, numbers),), (), ((luck.choice((".", "a", "m", "zz", key + "0", "t.q")), value),), ((key, value[:-1] or (1,)),)))
            rows = pages[page][:place] + new + pages[page][place + 1:]
            if luck.random() < 0.15:
                rows = pages[luck.choice(filled)]
            if is_rows(rows):
                pages[luck.choice((page, page, page, page, luck.randrange(32)))] = rows
        return tuple(pages)


if __name__ == "__main__":
    unittest.main()

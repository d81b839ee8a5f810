import unittest

from samples import THINGS, chance, refusal
from tables_model import BLANK, Dicts, by_the_words, doing, outcome, some_storedeed, view_of
from views import drawn
from wendleaf.bare import bare
from wendleaf.checker import faults, meaning
from wendleaf.deedrun import done
from wendleaf.deeds import inverse, is_deed, page_of
from wendleaf.rings import order
from wendleaf.tables import is_storedeed, made_storedeed, planned
from wendleaf.trees import free_pages, references, table_row, way

MOST = 10 ** 9

RIGHT = (
    ("make", "a", 1, 0), ("make", "abc012", 2, 400), ("end", "0"), ("call", "a", "b"), ("call", "a", "a"), ("snap", "zzzzzz", "0"), ("snap", "a", "a"),
    ("clone", "s", "t"), ("fade", "s"), ("put", "a", "k", (0,)), ("put", "a", "abcdefghijkl", (MOST, -MOST)), ("drop", "a", "0"), ("rename", "a", "k", "k"),
    ("rename", "a", "k", "abcdefghijkl"), ("shift", "a", "k", 0, 0), ("shift", "a", "k", 1, 2 * MOST), ("shift", "a", "k", 0, -2 * MOST),
    ("post", "a", "k", 0, "t.a", "k", 1, 1), ("post", "a", "k", 1, "s.zzzzzz", "m", 0, -1), ("clear", "a", None, None), ("clear", "a", "k", None),
    ("clear", "a", None, "k"), ("clear", "a", "k", "k0"),
)
BAD_NAMES = ("", "abcdefg", "A", "a.", "t.a", ".", "a b", "-", 1, None, True, (), ("a",), "a\n", "\u00e9")
BAD_ROWNAMES = ("", "abcdefghijklm", "A", "a.b", ".", "a b", "-", 1, None, False, (), ("a",), "k\n")
BAD_PARTS = {
    "name": BAD_NAMES,
    "rowname": BAD_ROWNAMES,
    "bound": tuple(thing for thing in BAD_ROWNAMES if thing is not None),
    "width": (0, 3, -1, True, None, "1", (1,)),
    "most": (-1, 401, True, False, None, "1", (1,)),
    "numbers": ((), (1, 2, 3), (MOST + 1,), (-MOST - 1,), (1, MOST + 1), (True,), (None,), ("1",), 1, None, "1", ((1,),)),
    "index": (-1, 2, True, False, None, "0"),
    "by": (2 * MOST + 1, -2 * MOST - 1, True, None, "1", (1,)),
    "source": ("a", "t.", "s.", "u.a", "t.abcdefg", "t.A", "t.a.b", "", 1, None, True, ("t.a",)),
    "sign": (0, 2, -2, True, False, None, "1"),
}
ITEMS = {
    "make": ("name", "width", "most"), "end": ("name",), "call": ("name", "name"), "snap": ("name", "name"), "clone": ("name", "name"), "fade": ("name",),
    "put": ("name", "rowname", "numbers"), "drop": ("name", "rowname"), "rename": ("name", "rowname", "rowname"),
    "shift": ("name", "rowname", "index", "by"), "post": ("name", "rowname", "index", "source", "rowname", "index", "sign"), "clear": ("name", "bound", "bound"),
}


class Forms(unittest.TestCase):
    def bad(self, thing, index):
        self.assertEqual(refusal(made_storedeed, thing), ("BadStoreDeed", index), thing)
        self.assertIs(is_storedeed(thing), False)

    def test_right_ones(self):
        self.assertEqual({deed[0] for deed in RIGHT}, set(ITEMS))
        for deed in RIGHT:
            made = made_storedeed(deed)
            self.assertEqual(made, deed)
            self.assertIs(is_storedeed(deed), True)

    def test_each_part_wrong_by_itself_and_beside_later_ones(self):
        for deed in RIGHT:
            kinds = ITEMS[deed[0]]
            for index, kind in enumerate(kinds, start=1):
                for part in BAD_PARTS[kind]:
                    self.bad(deed[:index] + (part,) + deed[index + 1:], index)
                    spoilt = deed[:index] + (part,) + tuple(BAD_PARTS[later][0] for later in kinds[index:])
                    self.bad(spoilt, index)

    def test_ranges(self):
        for low, high in (("k", "k"), ("l", "k"), ("k0", "k")):
            self.bad(("clear", "a", low, high), 3)
        self.bad(("clear", "a", ".", "."), 2)
        self.bad(("clear", "a", "z", "."), 3)
        self.bad(("clear", "A", "l", "k"), 1)

    def test_words_and_lengths(self):
        for deed in RIGHT:
            self.bad(deed[:-1], 0)
            self.bad(deed + (1,), 0)
            self.bad(("take",) + deed[1:], 0)
            self.bad((deed[0].upper(),) + deed[1:], 0)
            self.bad((None,) + deed[1:], 0)
            self.bad(list(deed), 0)
        self.bad(("make", "A", 9, 9, 9), 0)

    def test_things_of_every_form(self):
        for thing in THINGS:
            self.bad(thing, 0)
            for word, kinds in ITEMS.items():
                things = (word,) + (thing,) * len(kinds)
                self.assertIs(is_storedeed(things), outcome(made_storedeed, things)[1] is None)


def rows(first, last, number=1):
    """Puts of rows with the names k00, k01, ..."""
    return tuple(("put", "a", f"k{n:02}", (number,)) for n in range(first, last))


FULL_BOOK = view_of(*[("make", f"t{n}", 1, 400) for n in range(6)] + [("snap", f"t{n}", f"s{n}") for n in range(6)])
# Two tables of the widths 1 and 2 and a snapshot.
PAIR = view_of(
    ("make", "a", 1, 3), ("make", "b", 2, 400), ("put", "a", "k", (5,)), ("put", "a", "m", (MOST,)), ("put", "b", "k", (7, -3)), ("put", "b", "n", (0, MOST)),
    ("snap", "a", "s"))


class Refusals(unittest.TestCase):
    def refused(self, error, deed, pages=PAIR):
        for manner in ("short", "ringless"):
            self.assertEqual(refusal(planned, pages, (deed,), (), manner), error, deed)

    def nothing(self, deed, pages=PAIR):
        self.assertEqual(planned(pages, (deed,), (), "short"), ())

    def test_make_snap_and_clone(self):
        self.refused(("Known", "t.a"), ("make", "a", 1, 0))
        self.refused(("BookFull", 12), ("make", "new", 1, 0), FULL_BOOK)
        self.refused(("Known", "t.t0"), ("make", "t0", 1, 0), FULL_BOOK)
        self.refused(("NoTable", "t.s"), ("snap", "s", "s"))
        self.refused(("Known", "s.s"), ("snap", "b", "s"))
        self.refused(("NoTable", "t.no"), ("snap", "no", "s0"), FULL_BOOK)
        self.refused(("Known", "s.s0"), ("snap", "t1", "s0"), FULL_BOOK)
        self.refused(("BookFull", 12), ("snap", "t1", "new"), FULL_BOOK)
        self.refused(("NoTable", "s.a"), ("clone", "a", "a"))
        self.refused(("Known", "t.a"), ("clone", "s", "a"))
        self.refused(("NoTable", "s.no"), ("clone", "no", "t0"), FULL_BOOK)
        self.refused(("Known", "t.t0"), ("clone", "s0", "t0"), FULL_BOOK)
        self.refused(("BookFull", 12), ("clone", "s0", "new"), FULL_BOOK)

    def test_end_fade_and_call(self):
        self.refused(("NoTable", "t.s"), ("end", "s"))
        self.refused(("NoTable", "s.a"), ("fade", "a"))
        self.refused(("NoTable", "t.s"), ("call", "s", "a"))
        self.refused(("Known", "t.a"), ("call", "a", "a"))
        self.refused(("Known", "t.b"), ("call", "a", "b"))
        self.assertEqual(planned(PAIR, (("call", "a", "s"),), (), "short"), (("rename", 0, "t.a", "t.s"),))

    def test_put(self):
        self.refused(("NoTable", "t.s"), ("put", "s", "k", (1, 2)))
        self.refused(("BadWidth", 1), ("put", "a", "k", (5, 0)))
        self.refused(("BadWidth", 2), ("put", "b", "new", (5,)))
        self.nothing(("put", "a", "k", (5,)))
        full = view_of(("make", "a", 1, 1), ("put", "a", "k", (5,)))
        self.nothing(("put", "a", "k", (5,)), full)
        self.refused(("OverLimit", 1), ("put", "a", "m", (5,)), full)
        self.refused(("BadWidth", 1), ("put", "a", "m", (5, 5)), full)
        self.assertEqual(planned(full, (("put", "a", "k", (6,)),), (), "short"), (("put", 1, "k", (5,), (6,)),))
        self.refused(("OverLimit", 0), ("put", "a", "k", (5,)), view_of(("make", "a", 1, 0)))
        more = (("t.a", (1, 0, 1, 400)),)
        self.assertEqual(len(planned((more,) + full[1:], (("put", "a", "m", (5,)),), (), "short")), 1)

    def test_drop_and_rename(self):
        self.refused(("NoTable", "t.s"), ("drop", "s", "k"))
        self.refused(("NoName", "n"), ("drop", "a", "n"))
        self.refused(("NoTable", "t.s"), ("rename", "s", "k", "k"))
        self.refused(("NoName", "n"), ("rename", "a", "n", "k"))
        self.refused(("Known", "k"), ("rename", "a", "k", "k"))
        self.refused(("Known", "m"), ("rename", "a", "k", "m"))
        self.refused(("NoName", "z"), ("rename", "a", "z", "z"))

    def test_shift(self):
        self.refused(("NoTable", "t.s"), ("shift", "s", "x", 1, MOST))
        self.refused(("NoName", "x"), ("shift", "a", "x", 1, MOST))
        self.refused(("BadNumber", 1), ("shift", "a", "k", 1, 0))
        self.refused(("BadNumber", 1), ("shift", "a", "m", 1, MOST))
        self.nothing(("shift", "a", "m", 0, 0))
        self.refused(("TooGreat", MOST + 1), ("shift", "a", "m", 0, 1))
        self.refused(("TooGreat", 5 - 2 * MOST), ("shift", "a", "k", 0, -2 * MOST))
        self.refused(("TooGreat", MOST + 1), ("shift", "b", "n", 1, 1))
        self.assertEqual(planned(PAIR, (("shift", "b", "k", 1, -4),), (), "short"), (("bump", 2, "k", 1, -4),))
        self.assertEqual(planned(PAIR, (("shift", "b", "n", 1, -2 * MOST),), (), "short"), (("bump", 2, "n", 1, -2 * MOST),))

    def test_post(self):
        self.refused(("NoTable", "t.s"), ("post", "s", "x", 1, "t.no", "y", 1, 1))
        self.refused(("NoTable", "t.no"), ("post", "a", "x", 1, "t.no", "y", 1, 1))
        self.refused(("NoTable", "s.a"), ("post", "a", "x", 1, "s.a", "y", 1, 1))
        self.refused(("NoName", "x"), ("post", "a", "x", 1, "s.s", "y", 1, 1))
        self.refused(("NoName", "y"), ("post", "a", "k", 1, "s.s", "y", 1, 1))
        self.refused(("BadNumber", 1), ("post", "a", "k", 1, "s.s", "k", 1, 1))
        self.refused(("BadNumber", 1), ("post", "b", "k", 0, "s.s", "k", 1, 1))
        self.refused(("BadNumber", 1), ("post", "a", "k", 1, "t.b", "k", 0, 1))
        self.refused(("BadNumber", 1), ("post", "a", "k", 1, "t.b", "n", 0, 1))
        self.nothing(("post", "a", "k", 0, "t.b", "n", 0, 1))
        self.nothing(("post", "a", "m", 0, "t.b", "n", 0, -1))
        self.refused(("TooGreat", MOST + 5), ("post", "a", "k", 0, "s.s", "m", 0, 1))
        self.refused(("TooGreat", -MOST - 3), ("post", "b", "k", 1, "t.b", "n", 1, -1))
        self.assertEqual(planned(PAIR, (("post", "b", "k", 1, "t.b", "k", 0, -1),), (), "short"), (("bump", 2, "k", 1, -7),))
        self.assertEqual(planned(PAIR, (("post", "b", "k", 1, "s.s", "k", 0, -1),), (), "short"), (("add", 2, "k", 1, 1, "k", 0, -1),))

    def test_clear(self):
        self.refused(("NoTable", "t.s"), ("clear", "s", None, None))
        self.nothing(("clear", "a", "l", "m"))
        self.nothing(("clear", "a", None, "k"))
        self.nothing(("clear", "a", "n", None))
        self.nothing(("clear", "e", None, None), view_of(("make", "e", 1, 400)))

    def test_the_first_store_deed_that_is_refused(self):
        for deeds, error in (((("drop", "a", "k"), ("drop", "a", "k"), ("drop", "x", "y")), ("NoName", "k")),
                             ((("put", "a", "z", (1,)), ("put", "a", "y", (1,))), ("OverLimit", 3)),
                             ((("end", "b"), ("put", "b", "k", (1, 1))), ("NoTable", "t.b"))):
            self.assertEqual(refusal(planned, PAIR, deeds, (), "short"), error)

    def test_no_store_deeds(self):
        self.assertEqual(planned(PAIR, (), (), "short"), ())


class Examples(unittest.TestCase):
    def test_a_snapshot(self):
        pages = BLANK
        for deed, plan in (
                (("make", "a", 1, 400), (("put", 0, "t.a", None, (1, 0, 1, 400)),)), (("put", "a", "k", (5,)), (("put", 1, "k", None, (5,)),)),
                (("snap", "a", "s"), (("put", 0, "s.s", None, (1, 0, 1, 400)),)),
                (("put", "a", "k", (6,)), (("take", 2, 1, None, None), ("bump", 0, "t.a", 0, 1), ("put", 2, "k", (5,), (6,)))),
                (("fade", "s"), (("put", 0, "s.s", (1, 0, 1, 400), None), ("carry", 1, (("k", (5,)),), ())))):
            self.assertEqual(planned(pages, (deed,), (), "short"), plan)
            pages = doing(pages, plan)

    def test_a_full_leaf(self):
        names = [f"a{n}" for n in range(1, 10)] + ["b1", "b2", "b3"]
        pages = view_of(("make", "a", 1, 400), *[("put", "a", name, (1,)) for name in names])
        twelve = tuple((name, (1,)) for name in names)
        short = (
            ("put", 2, ".", None, (1, 12, 0, 0)), ("tally", 2, ".", 2, 1, None, None, 0, 1), ("put", 0, "t.a", (1, 0, 1, 400), (2, 1, 1, 400)),
            ("take", 3, 1, "a7", None), ("drop", 1, 3, "a7", None), ("put", 2, "a7", None, (3, 6, 0, 0)), ("tally", 2, "a7", 2, 3, None, None, 0, 1),
            ("bump", 2, ".", 1, -6), ("tally", 2, ".", 2, 3, None, None, 0, -1), ("put", 3, "b4", None, (1,)), ("bump", 2, "a7", 1, 1), ("bump", 2, "a7", 2, 1))
        self.assertEqual(pages[1], twelve)
        self.assertEqual(planned(pages, (("put", "a", "b4", (1,)),), (), "short"), short)
        ringless = short[:4] + (("carry", 1, twelve, twelve[:6]),) + short[5:]
        self.assertEqual(planned(pages, (("put", "a", "b4", (1,)),), (), "ringless"), ringless)


def undone(pages, plan):
    """The view before the page deeds, undone one by one from the last one on."""
    rows_of = list(pages)
    for deed in reversed(plan):
        deed = inverse(deed)
        rows_of[page_of(deed)] = done(deed, rows_of[page_of(deed)], lambda page: rows_of[page])
    return tuple(rows_of)


class Plans(unittest.TestCase):
    """Each plan beside plain dicts, and beside the words of [25]."""

    def step(self, pages, dicts, deeds, kept=(), manner="short"):
        """Plans the store deeds as one, checks everything, and returns the plan, the view and the dicts behind it, or None."""
        trial = dicts.copy()
        error = None
        for deed in deeds:
            error = error or trial.do(deed)
        plan, told = outcome(planned, pages, deeds, kept, manner)
        if told == ("NoPage", 0):
            self.assertIs(by_the_words(pages, deeds, kept, manner) if error is None else None, None)
            return None
        self.assertEqual(told, error)
        if error is not None:
            return None
        self.assertEqual(plan, by_the_words(pages, deeds, kept, manner))
        behind = doing(pages, plan)
        self.assertTrue(all(is_deed(deed) for deed in plan))
        self.assertEqual(faults(behind), ())
        self.assertEqual(meaning(behind), trial.meaning())
        self.assertEqual(undone(behind, plan), pages)
        if len(deeds) == 1 and deeds[0][0] != "clear":
            self.assertLessEqual(len(plan), 62)
        if manner == "ringless" and len(kept) + len(plan) <= 400 and order(bare(kept, 32)) is not None:
            self.assertIsNot(order(bare(kept + plan, 32)), None)
        return plan, behind, trial

    def run_of(self, luck, names, steps, manner, tables, snapshots, seen):
        pages, dicts, kept = BLANK, Dicts(), ()
        for count in range(steps):
            mood = ("grow", "mixed", "shrink", "grow")[count // 150 % 4]
            deed = some_storedeed(luck, dicts, names, mood, tables, snapshots)
            if deed[0] in ("end", "make") and "t." + deed[1] in dicts.tables and luck.random() < 0.9:
                continue
            found = self.step(pages, dicts, (deed,), kept, manner)
            if found is None:
                continue
            plan, pages, dicts = found
            kept = () if luck.random() < 0.03 else (kept + plan)[-200:]
            seen["height"] = max([seen.get("height", 0)] + [value[1] for _, value in pages[0]])
            seen["rows"] = max([seen.get("rows", 0)] + [len(told) for _, _, _, told in dicts.meaning()])
            seen[deed[0]] = seen.get(deed[0], 0) + 1
            seen["replaced"] = seen.get("replaced", 0) + (deed[0] not in ("end", "fade") and any(each[0] == "carry" for each in plan))
        return pages

    def test_long_runs(self):
        for manner in ("short", "ringless"):
            seen = {}
            for seed in range(9):
                luck = chance(seed)
                names = [f"n{n:03}" for n in range((20, 60, 250)[seed % 3])]
                self.run_of(luck, names, 900, manner, ("a", "ab", "abc")[seed // 3], "xy"[:1 + seed % 2], seen)
            self.assertEqual(seen["height"], 2)
            self.assertGreater(seen["rows"], 100)
            self.assertTrue(all(seen[word] >= 5 for word in ITEMS), seen)
            self.assertEqual(seen["replaced"] > 100, manner == "ringless")

    def test_several_store_deeds_as_one(self):
        for seed in range(40):
            luck = chance(seed)
            names = [f"n{n:03}" for n in range(40)]
            pages, dicts, kept = BLANK, Dicts(), ()
            manner = luck.choice(("short", "ringless"))
            for _ in range(30):
                trial, deeds = dicts.copy(), []
                for _ in range(luck.randint(1, 6)):
                    deed = some_storedeed(luck, trial, names)
                    if trial.copy().do(deed) is None or luck.random() < 0.05:
                        trial.do(deed)
                        deeds.append(deed)
                found = self.step(pages, dicts, tuple(deeds), kept, manner)
                if found is not None:
                    kept, pages, dicts = kept + found[0], found[1], found[2]

    def test_sound_views_that_no_store_deeds_make(self):
        lengths = set()
        for seed in range(200):
            luck = chance(seed)
            builder = drawn(luck, luck.choice((30, 60)))
            pages = builder.view()
            dicts = Dicts({source: (width, most, dict(told)) for source, width, most, told in builder.meaning()})
            names = sorted({name for _, _, _, told in builder.meaning() for name, _ in told} | {"zz", "0", "m5", "a", "k9"})
            kept, manner = (), luck.choice(("short", "ringless"))
            for _ in range(20):
                deed = some_storedeed(luck, dicts, names, luck.choice(("mixed", "shrink", "grow")), "abcdwxyz", "wxyz")
                found = self.step(pages, dicts, (deed,), kept, manner)
                if found is not None:
                    kept, pages, dicts = kept + found[0], found[1], found[2]
                    lengths.add(len(found[0]))
        self.assertGreater(max(lengths), 25)

    def view(self, *deeds):
        pages, dicts = BLANK, Dicts()
        for deed in deeds:
            _, pages, dicts = self.step(pages, dicts, (deed,))
        return pages, dicts

    def words(self, plan):
        return [deed[0] for deed in plan]

    def test_what_changes_nothing(self):
        pages, dicts = self.view(("make", "a", 2, 400), ("put", "a", "k", (5, 0)), ("snap", "a", "s"))
        for deed in (("put", "a", "k", (5, 0)), ("shift", "a", "k", 0, 0), ("post", "a", "k", 0, "t.a", "k", 1, 1), ("clear", "a", "l", None)):
            self.assertEqual(self.step(pages, dicts, (deed,))[0], ())

    def test_eleven_and_twelve_rows(self):
        pages, dicts = self.view(("make", "a", 1, 400), *rows(0, 11))
        self.assertEqual(self.step(pages, dicts, (("put", "a", "z", (1,)),))[0], (("put", 1, "z", None, (1,)),))
        _, pages, dicts = self.step(pages, dicts, (("put", "a", "z", (1,)),))
        self.assertEqual(len(self.step(pages, dicts, (("put", "a", "zz", (0,)),))[0]), 11)
        # A row that is there needs no room.
        self.assertEqual(self.step(pages, dicts, (("put", "a", "z", (2,)),))[0], (("put", 1, "z", (1,), (2,)),))

    def test_a_branch_of_eleven_and_of_twelve_rows(self):
        pages, dicts = self.view(("make", "a", 1, 400))
        count = 0
        seen = {}
        while table_row(pages.__getitem__, "t.a")[1] < 2:
            branch = pages[table_row(pages.__getitem__, "t.a")[0]] if table_row(pages.__getitem__, "t.a")[1] else ()
            plan, pages, dicts = self.step(pages, dicts, (("put", "a", f"k{count:03}", (count,)),))
            seen.setdefault(len(branch), set()).add(len(plan))
            count += 1
        # A leaf of twelve rows below a branch of eleven is parted alone; below one of twelve the branch is parted, too, and a new root is made.
        self.assertEqual((max(seen[11]), max(seen[12])), (9, 22))
        root = table_row(pages.__getitem__, "t.a")[0]
        self.assertEqual([len(pages[value[0]]) for _, value in pages[root]], [6, 7])

    def test_full_pages_below_a_root_that_has_room(self):
        # A full root above a full branch above a full leaf would need 36 pages; there are 31.
        names = [f"{place:02}{n:02}" for place in range(12) for n in range(12)]
        others = [[f"x{n:02}"] for n in range(3)]
        leaves = [names[place:place + 12] for place in range(0, 144, 12)]
        lows = ["."] + [told[0] for told in leaves[1:]]
        for more in ([], [[other] for other in others]):
            pages, dicts = self.inner([leaves] + more, [lows] + [[told[0][0]] for told in more])
            plan, behind, _ = self.step(pages, dicts, (("put", "a", "05zz", (9,)),))
            self.assertEqual(table_row(behind.__getitem__, "t.a")[:2], (1, 2))
            self.assertEqual(len(behind[1]), 2 + len(more))
            self.assertEqual([deed[2] for deed in plan if deed[0] == "take"], [2, 8])
            self.assertEqual(len(plan), 18)

    def test_drops_that_empty_a_leaf(self):
        pages, dicts = self.view(("make", "a", 1, 400), *rows(0, 25))
        book = table_row(pages.__getitem__, "t.a")
        self.assertEqual((book[1], [len(pages[value[0]]) for _, value in pages[book[0]]]), (1, [6, 6, 6, 7]))
        for name in [f"k{n:02}" for n in range(18, 25)]:
            plan, pages, dicts = self.step(pages, dicts, (("drop", "a", name),))
        # First leaf of the branch: the next row takes over its low.
        first = self.leaves_apart()
        plan, behind, _ = self.step(*first, (("drop", "a", "a"),))
        self.assertEqual([deed for deed in plan if deed[0] == "rename"], [("rename", 1, "c", ".")])
        plan, behind, _ = self.step(*first, (("drop", "a", "m"),))
        self.assertEqual(self.words(plan).count("rename"), 0)

    def leaves_apart(self):
        """A table with a branch over leaves of one, twelve and one rows."""
        many = tuple((f"c{n:02}", (1,)) for n in range(12))
        pages = list(BLANK)
        pages[0] = (("t.a", (1, 1, 1, 400)),)
        pages[1] = ((".", (2, 1, 1, 0)), ("c", (3, 12, 12, 0)), ("m", (4, 1, 1, 0)))
        pages[2], pages[3], pages[4] = (("a", (1,)),), many, (("m", (1,)),)
        return tuple(pages), Dicts({"t.a": (1, 400, {"a": (1,), "m": (1,), **dict(many)})})

    def inner(self, leaves, lows):
        """A table of height 2: for each branch the lists of names of its leaves, and their lows."""
        pages = [()] * 32
        book, fresh, root, told = [], 2, [], {}
        for branch, bounds in zip(leaves, lows):
            page, fresh, found = fresh, fresh + 1, []
            for names, low in zip(branch, bounds):
                pages[fresh] = tuple((name, (1,)) for name in names)
                told.update({name: (1,) for name in names})
                found.append((low, (fresh, len(names), len(names), 0)))
                fresh += 1
            pages[page] = tuple(found)
            root.append((bounds[0], (page, sum(value[1] for _, value in found), sum(value[2] for _, value in found), 0)))
        pages[1] = tuple(root)
        book.append(("t.a", (1, 2, 1, 400)))
        pages[0] = tuple(book)
        self.assertEqual(faults(tuple(pages)), ())
        return tuple(pages), Dicts({"t.a": (1, 400, told)})

    def test_the_only_leaf_of_the_first_branch(self):
        full = [f"m{n:02}" for n in range(12)]
        pages, dicts = self.inner(([["a"]], [["k"], full]), (["."], ["k", "m00"]))
        plan, behind, _ = self.step(pages, dicts, (("drop", "a", "a"),))
        # The second branch is the first one now: it and its first row take over the low, and it is the root in the end.
        self.assertEqual([deed for deed in plan if deed[0] == "rename"], [("rename", 1, "k", "."), ("rename", 4, "k", ".")])
        self.assertEqual(table_row(behind.__getitem__, "t.a"), (4, 1, 1, 400))
        self.assertEqual(behind[1], ())

    def test_the_low_goes_down_a_branch_that_a_snapshot_shares(self):
        pages, dicts = self.inner(([["a"]], [["k"], [f"m{n:02}" for n in range(12)]]), (["."], ["k", "m00"]))
        _, pages, dicts = self.step(pages, dicts, (("snap", "a", "s"),))
        plan, behind, _ = self.step(pages, dicts, (("drop", "a", "a"),))
        self.assertEqual([deed[0] for deed in plan if deed[0] in ("take", "rename")].count("rename"), 2)
        self.assertEqual(references(behind.__getitem__)[4], 1)

    def test_joins_to_the_right_and_to_the_left(self):
        ten = [f"k{n:02}" for n in range(12)]
        pages, dicts = self.leaves_like((["a1", "a2", "a3", "a4", "a5"], ["b1", "b2", "b3", "b4"], ten))
        plan, behind, _ = self.step(pages, dicts, (("drop", "a", "a1"),))
        self.assertEqual(plan[-5:], (
            ("take", 2, 3, "b1", None), ("drop", 3, 2, "b1", None), ("bump", 1, ".", 1, 4), ("bump", 1, ".", 2, 4), ("put", 1, "b1", (3, 4, 4, 0), None)))
        plan, behind, _ = self.step(pages, dicts, (("drop", "a", "b4"),))
        self.assertEqual(plan[-5:], (
            ("take", 2, 3, "b1", None), ("drop", 3, 2, "b1", None), ("bump", 1, ".", 1, 3), ("bump", 1, ".", 2, 3), ("put", 1, "b1", (3, 3, 3, 0), None)))
        pages, dicts = self.leaves_like((["a1", "a2", "a3", "a4", "a5"], ["b1", "b2", "b3", "b4", "b5"], ten))
        self.assertNotIn("take", self.words(self.step(pages, dicts, (("drop", "a", "a1"),))[0]))
        # The right neighbour goes ahead of the left one.
        pages, dicts = self.leaves_like((["a1"], ["b1", "b2"], ["c1"], ten))
        plan, _, _ = self.step(pages, dicts, (("drop", "a", "b2"),))
        self.assertEqual([deed[:3] for deed in plan if deed[0] == "take"], [("take", 3, 4)])

    def leaves_like(self, leaves):
        pages = [()] * 32
        pages[0] = (("t.a", (1, 1, 1, 400)),)
        root, told = [], {}
        for place, names in enumerate(leaves):
            pages[place + 2] = tuple((name, (1,)) for name in names)
            told.update({name: (1,) for name in names})
            root.append(("." if place == 0 else names[0], (place + 2, len(names), len(names), 0)))
        pages[1] = tuple(root)
        self.assertEqual(faults(tuple(pages)), ())
        return tuple(pages), Dicts({"t.a": (1, 400, told)})

    def test_joins_of_leaves_that_a_snapshot_shares(self):
        ten = [f"k{n:02}" for n in range(12)]
        pages, dicts = self.leaves_like((["a1", "a2", "a3"], ["b1", "b2"], ten))
        _, pages, dicts = self.step(pages, dicts, (("snap", "a", "s"),))
        # The right one stays for the snapshot, the left one is owned ahead of that.
        plan, behind, _ = self.step(pages, dicts, (("drop", "a", "a1"),))
        self.assertNotIn("drop", self.words(plan))
        self.assertEqual(behind[3], pages[3])
        # A left one that is shared cannot take rows.
        plan, behind, _ = self.step(pages, dicts, (("drop", "a", "b1"),))
        self.assertEqual([deed[0] for deed in plan], ["take", "bump", "take", "bump", "put", "bump", "bump"])

    def test_joins_of_branches_and_a_lower_root(self):
        full = [[f"{sign}{n:02}" for n in range(12)] for sign in "bcdefg"]
        pages, dicts = self.inner(([["a1"], full[0]], [full[1], full[2]]), ([".", "b"], ["c00", "d00"]))
        plan, behind, _ = self.step(pages, dicts, (("drop", "a", "a1"),))
        self.assertEqual(table_row(behind.__getitem__, "t.a"), (2, 1, 1, 400))
        self.assertEqual(len(free_pages(behind.__getitem__)), 31 - 4)
        self.assertEqual([deed for deed in plan if deed[0] == "put" and deed[1] in (0, 1)][-2:], [
            ("put", 0, "t.a", (1, 2, 1, 400), (2, 1, 1, 400)), ("put", 1, ".", (2, 36, 36, 0), None)])

    def test_a_root_without_rows(self):
        pages, dicts = self.inner(([["a"]],), (["."],))
        plan, behind, _ = self.step(pages, dicts, (("drop", "a", "a"),))
        self.assertEqual(plan[-1], ("put", 0, "t.a", (1, 2, 1, 400), (1, 0, 1, 400)))
        self.assertEqual(behind[1:], BLANK[1:])

    def test_a_root_with_one_row_that_a_snapshot_shares(self):
        # The root's only child has one row, too, and the snapshot keeps it.
        pages = [()] * 32
        pages[0] = (("s.s", (2, 1, 1, 400)), ("t.a", (1, 2, 1, 400)))
        pages[1] = ((".", (2, 2, 2, 0)),)
        pages[2] = ((".", (3, 2, 2, 0)),)
        pages[3] = (("a", (1,)), ("b", (1,)))
        self.assertEqual(faults(tuple(pages)), ())
        told = {"a": (1,), "b": (1,)}
        plan, behind, _ = self.step(tuple(pages), Dicts({"t.a": (1, 400, dict(told)), "s.s": (1, 400, dict(told))}), (("drop", "a", "a"),))
        self.assertEqual(behind[2], pages[2])
        self.assertEqual(table_row(behind.__getitem__, "t.a")[1], 0)

    def test_rename(self):
        pages, dicts = self.view(("make", "a", 1, 13), *rows(0, 13, 4))
        plan, _, _ = self.step(pages, dicts, (("rename", "a", "k00", "k00x"),))
        self.assertEqual(plan, (("rename", 1, "k00", "k00x"),))
        plan, _, _ = self.step(pages, dicts, (("rename", "a", "k00", "zz"),))
        self.assertEqual([deed for deed in plan if deed[0] == "put"], [("put", 1, "k00", (4,), None), ("put", 3, "zz", None, (4,))])
        _, pages, dicts = self.step(pages, dicts, (("snap", "a", "s"),))
        plan, _, _ = self.step(pages, dicts, (("rename", "a", "k00", "k00x"),))
        self.assertEqual(self.words(plan), ["take", "bump", "take", "bump", "rename"])

    def test_post(self):
        pages, dicts = self.view(("make", "a", 1, 400), *rows(0, 13, 4))
        plan, _, _ = self.step(pages, dicts, (("post", "a", "k00", 0, "t.a", "k01", 0, -1),))
        self.assertEqual(plan, (("bump", 1, "k00", 0, -4), ("bump", 2, ".", 2, -4)))
        plan, _, _ = self.step(pages, dicts, (("post", "a", "k00", 0, "t.a", "k12", 0, -1),))
        self.assertEqual(plan, (("add", 1, "k00", 0, 3, "k12", 0, -1), ("bump", 2, ".", 2, -4)))
        _, pages, dicts = self.step(pages, dicts, (("make", "b", 2, 400),))
        _, pages, dicts = self.step(pages, dicts, (("put", "b", "x", (1, 9)),))
        self.assertEqual(self.step(pages, dicts, (("post", "b", "x", 1, "t.a", "k12", 0, 1),))[0], (("add", 4, "x", 1, 3, "k12", 0, 1),))
        # From a snapshot: its leaf is the same page until the way is owned.
        _, pages, dicts = self.step(pages, dicts, (("snap", "b", "s"),))
        plan, _, _ = self.step(pages, dicts, (("post", "b", "x", 0, "s.s", "x", 1, 1),))
        self.assertEqual(plan, (("take", 5, 4, None, None), ("bump", 0, "t.b", 0, 1), ("add", 5, "x", 0, 4, "x", 1, 1)))

    def test_clear(self):
        pages, dicts = self.view(("make", "a", 2, 400), *[("put", "a", f"k{n:02}", (n, -n)) for n in range(60)])
        for low, high in ((None, None), ("k10", "k50"), (None, "k30"), ("k30", None), ("k5", "k50"), ("k59", None)):
            plan, behind, _ = self.step(pages, dicts, (("clear", "a", low, high),))
            names = sorted(name for name in dicts.tables["t.a"][2] if (low is None or low <= name) and (high is None or name < high))
            self.assertEqual(plan, planned(pages, tuple(("drop", "a", name) for name in names), (), "short"))
        self.assertEqual(self.step(pages, dicts, (("clear", "a", None, None),))[1][2:], BLANK[2:])

    def test_end_and_fade(self):
        pages, dicts = self.view(("make", "a", 1, 400), *rows(0, 30))
        book = table_row(pages.__getitem__, "t.a")
        filled = [page for page in range(1, 32) if pages[page]]
        plan, _, _ = self.step(pages, dicts, (("end", "a"),))
        self.assertEqual(plan, (("put", 0, "t.a", book, None),) + tuple(("carry", page, pages[page], ()) for page in filled))
        _, pages, dicts = self.step(pages, dicts, (("snap", "a", "s"),))
        self.assertEqual(self.step(pages, dicts, (("end", "a"),))[0], (("put", 0, "t.a", book, None),))
        self.assertEqual(self.step(pages, dicts, (("fade", "s"),))[0], (("put", 0, "s.s", book, None),))
        _, pages, dicts = self.step(pages, dicts, (("put", "a", "k00", (9,)),))
        plan, behind, _ = self.step(pages, dicts, (("fade", "s"),))
        self.assertEqual(self.words(plan), ["put", "carry", "carry"])
        self.assertEqual(self.step(pages, dicts, (("end", "a"), ("fade", "s")))[1], BLANK)

    def test_too_few_free_pages(self):
        pages, dicts = self.view(*[("make", f"t{n}", 1, 400) for n in range(11)])
        _, pages, dicts = self.step(pages, dicts, (("make", "a", 1, 400),))
        count = 0
        while True:
            found = self.step(pages, dicts, (("put", "a", f"k{count:03}", (count,)),))
            if found is None:
                break
            _, pages, dicts = found
            count += 1
        self.assertEqual(free_pages(pages.__getitem__), ())
        self.assertEqual(refusal(planned, pages, (("put", "a", f"k{count:03}", (count,)),), (), "short"), ("NoPage", 0))
        # What needs no fresh page goes on.
        for deed in (("put", "a", "k000", (7,)), ("drop", "a", "k001"), ("shift", "a", "k002", 0, 5), ("rename", "a", "k003", "k003x")):
            self.assertIsNot(self.step(pages, dicts, (deed,)), None)

    def test_shared_ways_without_free_pages(self):
        pages, dicts = self.shared_without_free_pages()
        for deed in (("put", "a", "k000", (7,)), ("drop", "a", "k001"), ("shift", "a", "k002", 0, 5), ("rename", "a", "k003", "k003x"),
                     ("post", "a", "k004", 0, "s.s", "k005", 0, 1), ("clear", "a", None, None), ("make", "b", 1, 1)):
            self.assertEqual(refusal(planned, pages, (deed,), (), "short"), ("NoPage", 0))
        self.assertEqual(refusal(planned, pages, (("put", "a", "zz", (1, 2)),), (), "short"), ("BadWidth", 1))
        self.assertEqual(refusal(planned, pages, (("put", "a", "zz", (1,)),), (), "short"), ("OverLimit", len(dicts.tables["t.a"][2])))
        self.assertEqual(refusal(planned, pages, (("shift", "a", "k002", 0, MOST),), (), "short"), ("TooGreat", MOST + 3))
        self.assertEqual(refusal(planned, pages, (("make", "a", 1, 1),), (), "short"), ("Known", "t.a"))
        self.assertEqual(planned(pages, (("put", "a", "k000", (1,)),), (), "short"), ())

    def shared_without_free_pages(self):
        """A table and its snapshot, which have all of the pages together."""
        names = [f"k{n:03}" for n in range(29 * 5)]
        pages = [()] * 32
        fresh, root = 5, []
        for branch in range(3):
            found = []
            for _ in range(9):
                mine = names[(fresh - 5) * 5:(fresh - 4) * 5]
                pages[fresh] = tuple((name, (n + 1,)) for n, name in enumerate(mine))
                found.append((mine[0] if found or root else ".", (fresh, 5, 15, 0)))
                fresh += 1
            pages[branch + 2] = tuple(found)
            root.append((found[0][0], (branch + 2, 45, 135, 0)))
        pages[1] = tuple(root)
        rows_of = {name: numbers for page in range(5, 32) for name, numbers in pages[page]}
        pages[0] = (("s.s", (1, 2, 1, len(rows_of))), ("t.a", (1, 2, 1, len(rows_of))))
        self.assertEqual(faults(tuple(pages)), ())
        self.assertEqual(free_pages(pages.__getitem__), ())
        return tuple(pages), Dicts({source: (1, len(rows_of), dict(rows_of)) for source in ("s.s", "t.a")})

    def test_ringless_with_kept_deeds_that_read(self):
        pages, dicts = self.view(("make", "a", 1, 400), ("put", "a", "k", (5,)), ("snap", "a", "s"))
        deed = ("put", "a", "k", (6,))
        short = planned(pages, (deed,), (), "short")
        self.assertEqual(short[0], ("take", 2, 1, None, None))
        for kept, carried in (((), False), ((("add", 1, "k", 0, 0, "k", 0, 1), ("add", 0, "k", 0, 2, "k", 0, 1)), True),
                              ((("add", 1, "k", 0, 0, "k", 0, 1), ("add", 0, "k", 0, 3, "k", 0, 1)), False),
                              (tuple(("take", page, page + 1, None, None) for page in range(1, 31)) + (("take", 31, 2, None, None),), True),
                              ((("add", 1, "k", 0, 2, "k", 0, 1),), True), ((("add", 2, "k", 0, 1, "k", 0, 1),), False),
                              ((("take", 1, 9, None, None), ("drop", 9, 2, None, None)), True), ((("take", 1, 9, None, None), ("drop", 2, 9, None, None)), False)):
            plan, _, _ = self.step(pages, dicts, (deed,), kept, "ringless")
            self.assertEqual(plan[0], ("carry", 2, (), pages[1]) if carried else short[0])
            self.assertEqual(plan[1:], short[1:])
            self.assertEqual(planned(pages, (deed,), kept, "short"), short)

    def test_a_replaced_deed_that_changes_nothing_is_left_out(self):
        pages, dicts = self.view(("make", "a", 1, 400), *rows(0, 12, 0))
        kept = (("add", 1, "k00", 0, 2, "k", 0, 1),)
        short = planned(pages, (("put", "a", "z", (0,)),), kept, "short")
        plan, _, _ = self.step(pages, dicts, (("put", "a", "z", (0,)),), kept, "ringless")
        # The root 2 would read page 1, which reads it; the sum of its numbers is 0.
        self.assertIn(("tally", 2, ".", 2, 1, None, None, 0, 1), short)
        self.assertNotIn("tally", [deed[0] for deed in plan if deed[1:3] == (2, ".") and deed[4] == 1])
        self.assertEqual([deed for deed in plan if deed[0] == "carry" and deed[2] == deed[3]], [])
        self.assertLess(len(plan), len(short))

    def test_ways_are_owned(self):
        luck = chance(12)
        for _ in range(60):
            builder = drawn(luck, 40)
            pages = builder.view()
            for source, told in builder.rows.items():
                if source[0] == "t" and told:
                    name = luck.choice(told)[0]
                    plan, error = outcome(planned, pages, (("shift", source[2:], name, 0, -1 if dict(told)[name][0] > 0 else 1),), (), "short")
                    if error is None:
                        behind = doing(pages, plan)
                        many = references(behind.__getitem__)
                        self.assertEqual({many[page] for page, _ in way(behind.__getitem__, source, name)}, {1})


if __name__ == "__main__":
    unittest.main()

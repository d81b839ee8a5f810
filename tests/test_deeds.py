import unittest

from samples import GREATEST, RIGHT, ROWS, THINGS, TWELVE, refusal
from wendleaf.deeds import inverse, is_deed, made_deed, page_of, reads_of

BAD_PAGES = (-1, 32, True, False, None, "0", (0,))
BAD_KEYS = ("", "A", "a" * 13, "a b", "-", None, 1, True, ("a",))
BAD_BOUNDS = ("", "A", "a" * 13, "-", 1, False, ("a",))
BAD_CELLS = ((), (1, 2, 3, 4, 5), (True,), (GREATEST + 1,), (-GREATEST - 1,), 1, "1", False, ("1",))
BAD_INDEXES = (-1, 4, True, False, None, "0", (0,))
BAD_BYS = (0, 2 * GREATEST + 1, -2 * GREATEST - 1, True, False, None, "1", (1,))
BAD_SIGNS = (0, 2, -2, True, False, None, "1", (1,))
BAD_ROWS = (None, 1, "a", (1,), (("b", (1,)), ("a", (1,))), TWELVE + (("z", (1,)),), (("a", ()),), True)

# For each word a right deed, and for each of its items 1, 2, .. what may not stand there.
FORMS = (
    (("put", 1, "k", (1,), (2,)), (BAD_PAGES, BAD_KEYS, BAD_CELLS, BAD_CELLS + ((1,),))),
    (("put", 1, "k", None, (2,)), (BAD_PAGES, BAD_KEYS, BAD_CELLS, BAD_CELLS + (None,))),
    (("bump", 1, "k", 2, 5), (BAD_PAGES, BAD_KEYS, BAD_INDEXES, BAD_BYS)),
    (("rename", 1, "k", "m"), (BAD_PAGES, BAD_KEYS, BAD_KEYS + ("k",))),
    (("take", 1, 2, "a", "b"), (BAD_PAGES, BAD_PAGES + (1,), BAD_BOUNDS, BAD_BOUNDS + ("a", "0"))),
    (("drop", 1, 2, "a", "b"), (BAD_PAGES, BAD_PAGES + (1,), BAD_BOUNDS, BAD_BOUNDS + ("a", "0"))),
    (("add", 1, "k", 0, 2, "m", 3, -1),
     (BAD_PAGES, BAD_KEYS, BAD_INDEXES, BAD_PAGES + (1,), BAD_KEYS, BAD_INDEXES, BAD_SIGNS)),
    (("tally", 1, "k", 0, 2, "a", "b", 3, 1),
     (BAD_PAGES, BAD_KEYS, BAD_INDEXES, BAD_PAGES + (1,), BAD_BOUNDS, BAD_BOUNDS + ("a", "0"), BAD_INDEXES, BAD_SIGNS)),
    (("carry", 1, ROWS, ()), (BAD_PAGES, BAD_ROWS, BAD_ROWS + (ROWS,))),
    (("carry", 1, (), ROWS), (BAD_PAGES, BAD_ROWS, BAD_ROWS + ((),))),
)


def changed(deed, index, part):
    return deed[:index] + (part,) + deed[index + 1:]


class Deeds(unittest.TestCase):
    def refused(self, thing, index):
        self.assertEqual(refusal(made_deed, thing), ("BadDeed", index), thing)
        self.assertIs(is_deed(thing), False, thing)

    def test_right_deeds(self):
        for deed in RIGHT:
            self.assertEqual(made_deed(deed), deed)
            self.assertIs(is_deed(deed), True)
        self.assertEqual({deed[0] for deed in RIGHT}, {deed[0] for deed, _ in FORMS})

    def test_bounds_of_numbers(self):
        for page in (0, 31):
            self.assertTrue(is_deed(("bump", page, "k", 0, 1)))
        for index in range(4):
            self.assertTrue(is_deed(("bump", 0, "k", index, 1)))
            self.assertTrue(is_deed(("add", 0, "k", index, 1, "k", 3 - index, 1)))
            self.assertTrue(is_deed(("tally", 0, "k", index, 1, None, None, 3 - index, -1)))
        for by in (1, -1, 2 * GREATEST, -2 * GREATEST):
            self.assertTrue(is_deed(("bump", 0, "k", 0, by)))

    def test_each_part_wrong_by_itself(self):
        for deed, bad in FORMS:
            self.assertTrue(is_deed(deed))
            self.assertEqual(len(bad), len(deed) - 1)
            for index, parts in enumerate(bad, start=1):
                for part in parts:
                    self.refused(changed(deed, index, part), index)

    def test_two_wrong_parts(self):
        for deed, bad in FORMS:
            for later in range(2, len(deed)):
                for earlier in range(1, later):
                    for part in bad[earlier - 1][:4]:
                        for other in bad[later - 1]:
                            thing = changed(changed(deed, earlier, part), later, other)
                            if not is_deed(changed(thing, later, deed[later])):
                                self.refused(thing, earlier)

    def test_a_clash_counts_only_between_right_parts(self):
        self.refused(("take", 32, 32, None, None), 1)
        self.refused(("take", True, 1, None, None), 1)
        self.refused(("put", 0, "k", (), ()), 3)
        self.refused(("rename", 0, "A", "A"), 2)
        self.refused(("carry", 0, (1,), (1,)), 2)
        self.refused(("take", 0, 1, "B", "A"), 3)
        self.refused(("tally", 0, "k", 0, 1, "B", "A", 0, 1), 5)

    def test_clashes_at_their_place(self):
        self.refused(("put", 0, "k", None, None), 4)
        self.refused(("put", 0, "k", (1, 2), (1, 2)), 4)
        self.refused(("take", 1, 1, "b", "a"), 2)
        self.refused(("take", 1, 2, "b", "a"), 4)
        self.refused(("drop", 1, 2, "b", "b"), 4)
        self.refused(("add", 2, "k", 0, 2, "", 9, 9), 4)
        self.refused(("tally", 2, "k", 0, 2, "b", "a", 0, 1), 4)
        self.refused(("tally", 2, "k", 0, 3, "b", "a", 9, 9), 6)
        self.refused(("tally", 2, "k", 0, 3, "b", "b", 0, 1), 6)

    def test_examples(self):
        self.refused(("bump", 0, "k", 4, 0), 3)
        self.refused(("put", True, "k", None, (1,)), 1)

    def test_length_and_word(self):
        for deed, _ in FORMS:
            for index in range(1, len(deed)):
                self.refused(deed[:index] + deed[index + 1:], 0)
            self.refused(deed + (None,), 0)
            self.refused(deed[:1], 0)
            for word in ("", "Put", "puts", "shift", None, 1, True, (), ("put",)):
                self.refused(changed(deed, 0, word), 0)
        for thing in ((), None, True, 0, "put", "", "put 3 k.a - 5,7"):
            self.refused(thing, 0)

    def test_the_judge_raises_nothing(self):
        for thing in THINGS:
            self.assertIn(is_deed(thing), (True, False))
            for deed, _ in FORMS:
                for index in range(len(deed)):
                    other = changed(deed, index, thing)
                    if is_deed(other):
                        self.assertEqual(made_deed(other), other)
                    else:
                        self.assertEqual(refusal(made_deed, other)[0], "BadDeed")

    def test_pages(self):
        for deed in RIGHT:
            self.assertEqual(page_of(deed), deed[1])
            reads = ()
            if deed[0] in ("take", "drop"):
                reads = (deed[2],)
            if deed[0] in ("add", "tally"):
                reads = (deed[4],)
            self.assertEqual(reads_of(deed), reads)
        self.assertEqual(reads_of(("take", 5, 2, "m", None)), (2,))
        self.assertEqual(reads_of(("tally", 5, "s", 3, 9, None, None, 0, 1)), (9,))
        self.assertEqual(reads_of(("carry", 5, (), ROWS)), ())


class Inverses(unittest.TestCase):
    def test_each_word(self):
        pairs = (
            (("put", 1, "k", None, (1,)), ("put", 1, "k", (1,), None)),
            (("bump", 1, "k", 2, 5), ("bump", 1, "k", 2, -5)),
            (("rename", 1, "a", "b"), ("rename", 1, "b", "a")),
            (("take", 5, 2, "m", None), ("drop", 5, 2, "m", None)),
            (("add", 1, "k", 0, 2, "m", 3, -1), ("add", 1, "k", 0, 2, "m", 3, 1)),
            (("tally", 1, "k", 0, 2, None, "b", 3, 1), ("tally", 1, "k", 0, 2, None, "b", 3, -1)),
            (("carry", 1, (), ROWS), ("carry", 1, ROWS, ())),
        )
        for deed, other in pairs:
            self.assertEqual(inverse(deed), other)
            self.assertEqual(inverse(other), deed)

    def test_of_all_right_deeds(self):
        for deed in RIGHT:
            self.assertTrue(is_deed(inverse(deed)))
            self.assertEqual(inverse(inverse(deed)), deed)
            self.assertEqual(page_of(inverse(deed)), page_of(deed))
            self.assertEqual(reads_of(inverse(deed)), reads_of(deed))


if __name__ == "__main__":
    unittest.main()

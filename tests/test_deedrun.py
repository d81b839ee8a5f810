import unittest

from samples import GREATEST, TWELVE, chance, refusal
from wendleaf.deedrun import back, done, fits
from wendleaf.deeds import inverse, is_deed, reads_of
from wendleaf.errors import Unfit
from wendleaf.rows import is_rows

R = (("a", (1,)), ("k", (5, -6)), ("t", (0, 0, 0, 9)))
A = (("b", (1, 10)), ("m", (2, 20)), ("z", (3,)))


def never(page):
    raise AssertionError(f"page {page} was asked for")


def looking(rows, asked=None):
    """A look at the page 2 alone, which has the rows."""
    def look(page):
        if page != 2:
            raise AssertionError(f"page {page} was asked for")
        if asked is not None:
            asked.append(page)
        return rows
    return look


class Running(unittest.TestCase):
    def both(self, deed, rows, after, look=never):
        """The deed leads from the rows to the other ones, and back leads from these to the first ones."""
        self.assertTrue(is_deed(deed), deed)
        self.assertEqual(done(deed, rows, look), after)
        self.assertIs(fits(deed, rows, look), True)
        self.assertEqual(back(deed, after, look), rows)
        self.assertEqual(done(inverse(deed), after, look), rows)
        self.assertEqual(back(inverse(deed), rows, look), after)

    def unfit(self, deed, rows, look=never):
        """The deed cannot be done on the rows, so its inverse cannot be undone on them."""
        self.assertTrue(is_deed(deed), deed)
        self.assertEqual(refusal(done, deed, rows, look), ("Unfit", deed))
        self.assertIs(fits(deed, rows, look), False)
        turned = inverse(deed)
        self.assertEqual(refusal(back, turned, rows, look), ("Unfit", turned))

    def test_put(self):
        self.both(("put", 1, "c", None, (7,)), R, (R[0], ("c", (7,)), R[1], R[2]))
        self.both(("put", 1, "k", (5, -6), (5,)), R, (R[0], ("k", (5,)), R[2]))
        self.both(("put", 1, "k", (5, -6), None), R, (R[0], R[2]))
        self.both(("put", 1, "k", None, (1,)), (), (("k", (1,)),))

    def test_put_unfit(self):
        self.unfit(("put", 1, "k", None, (7,)), R)
        self.unfit(("put", 1, "k", (5,), (7,)), R)
        self.unfit(("put", 1, "k", (5, -6, 0), None), R)
        self.unfit(("put", 1, "c", (7,), None), R)
        self.unfit(("put", 1, "c", (7,), (8,)), ())

    def test_put_at_twelve_rows(self):
        self.both(("put", 1, "k11", None, (11,)), TWELVE[:11], TWELVE)
        self.unfit(("put", 1, "z", None, (1,)), TWELVE)
        self.both(("put", 1, "k00", (0,), (1,)), TWELVE, (("k00", (1,)),) + TWELVE[1:])

    def test_bump(self):
        self.both(("bump", 1, "k", 1, 4), R, (R[0], ("k", (5, -2)), R[2]))
        self.both(("bump", 1, "a", 0, -1), R, (("a", (0,)),) + R[1:])
        self.both(("bump", 1, "t", 3, 1), R, R[:2] + (("t", (0, 0, 0, 10)),))

    def test_bump_unfit(self):
        self.unfit(("bump", 1, "c", 0, 1), R)
        self.unfit(("bump", 1, "a", 1, 1), R)
        self.unfit(("bump", 1, "k", 2, 1), R)
        self.unfit(("bump", 1, "k", 0, 1), ())

    def test_bump_at_the_bounds(self):
        for sign in (1, -1):
            most = (("k", (sign * GREATEST,)),)
            self.both(("bump", 1, "k", 0, sign), (("k", (sign * (GREATEST - 1),)),), most)
            self.unfit(("bump", 1, "k", 0, sign), most)
            self.both(("bump", 1, "k", 0, -sign * 2 * GREATEST), most, (("k", (-sign * GREATEST,)),))
            self.unfit(("bump", 1, "k", 0, -sign * 2 * GREATEST), (("k", (sign * (GREATEST - 1),)),))

    def test_rename(self):
        self.both(("rename", 1, "a", "l"), R, (R[1], ("l", (1,)), R[2]))
        self.both(("rename", 1, "k", "ka"), R, (R[0], ("ka", (5, -6)), R[2]))
        self.both(("rename", 1, "k11", "0"), TWELVE, (("0", (11,)),) + TWELVE[:11])

    def test_rename_unfit(self):
        self.unfit(("rename", 1, "b", "c"), R)
        self.unfit(("rename", 1, "a", "k"), R)
        self.unfit(("rename", 1, "b", "k"), R)
        self.unfit(("rename", 1, "a", "b"), ())

    def test_take(self):
        look = looking(A)
        self.both(("take", 1, 2, "b", "n"), (R[0], R[2]), (R[0], A[0], A[1], R[2]), look)
        self.both(("take", 1, 2, "m", None), R[:1], R[:1] + A[1:], look)
        self.both(("take", 1, 2, None, None), (), A, look)
        self.both(("take", 1, 2, None, "c"), R[2:], A[:1] + R[2:], look)

    def test_take_of_no_rows(self):
        self.both(("take", 1, 2, "c", "d"), R, R, looking(A))
        self.both(("take", 1, 2, None, None), (), (), looking(()))
        self.both(("take", 1, 2, "u", None), TWELVE, TWELVE, looking(A[:2]))

    def test_take_unfit(self):
        look = looking(A)
        self.unfit(("take", 1, 2, None, None), R, look)
        self.unfit(("take", 1, 2, "k", "n"), R, look)
        self.unfit(("take", 1, 2, None, None), A, look)
        self.unfit(("take", 1, 2, "c", "d"), (("c", (1,)),), look)

    def test_take_at_twelve_rows(self):
        self.both(("take", 1, 2, "l", None), TWELVE[:10], TWELVE[:10] + A[1:], looking(A))
        self.unfit(("take", 1, 2, "l", None), TWELVE[:11], looking(A))
        self.both(("take", 1, 2, None, None), (), TWELVE, looking(TWELVE))
        self.both(("take", 1, 2, "k01", None), TWELVE[:1], TWELVE, looking(TWELVE))
        self.unfit(("take", 1, 2, "k01", None), (("0", (1,)), TWELVE[0]), looking(TWELVE))

    def test_drop(self):
        look = looking(A)
        self.both(("drop", 1, 2, "b", "n"), (R[0], A[0], A[1], R[2]), (R[0], R[2]), look)
        self.both(("drop", 1, 2, None, None), A, (), look)
        self.both(("drop", 1, 2, "m", None), R[:1] + A[1:], R[:1], look)
        self.both(("drop", 1, 2, "c", "d"), R, R, look)

    def test_drop_unfit(self):
        look = looking(A)
        self.unfit(("drop", 1, 2, None, None), R, look)
        self.unfit(("drop", 1, 2, None, None), A[:2], look)
        self.unfit(("drop", 1, 2, None, None), A + (("zz", (1,)),), look)
        self.unfit(("drop", 1, 2, "m", None), (("m", (2, 21)), A[2]), look)
        self.unfit(("drop", 1, 2, "m", None), (), look)
        self.unfit(("drop", 1, 2, "c", "d"), (("c", (1,)),), look)

    def test_add(self):
        look = looking(A)
        self.both(("add", 1, "k", 0, 2, "m", 1, 1), R, (R[0], ("k", (25, -6)), R[2]), look)
        self.both(("add", 1, "k", 1, 2, "z", 0, -1), R, (R[0], ("k", (5, -9)), R[2]), look)
        self.both(("add", 1, "k", 0, 2, "k", 0, 1), R, (R[0], ("k", (12, -6)), R[2]), looking((("k", (7,)),)))
        self.both(("add", 1, "k", 0, 2, "k", 0, 1), R, R, looking((("k", (0,)),)))

    def test_add_unfit(self):
        look = looking(A)
        self.unfit(("add", 1, "c", 0, 2, "m", 0, 1), R, look)
        self.unfit(("add", 1, "a", 1, 2, "m", 0, 1), R, look)
        self.unfit(("add", 1, "a", 0, 2, "c", 0, 1), R, look)
        self.unfit(("add", 1, "a", 0, 2, "z", 1, 1), R, look)
        self.unfit(("add", 1, "b", 0, 2, "m", 0, 1), (), look)
        self.unfit(("add", 1, "a", 0, 2, "m", 0, 1), R, looking(()))

    def test_add_at_the_bounds(self):
        for sign in (1, -1):
            look = looking((("o", (GREATEST,)),))
            none, some = (("k", (0,)),), (("k", (sign,)),)
            self.both(("add", 1, "k", 0, 2, "o", 0, sign), none, (("k", (sign * GREATEST,)),), look)
            self.unfit(("add", 1, "k", 0, 2, "o", 0, sign), some, look)
            least = (("k", (-sign * GREATEST,)),)
            self.both(("add", 1, "k", 0, 2, "o", 0, sign), least, none, look)

    def test_tally(self):
        look = looking(A)
        self.both(("tally", 1, "k", 0, 2, None, None, 0, 1), R, (R[0], ("k", (11, -6)), R[2]), look)
        self.both(("tally", 1, "k", 1, 2, None, "z", 1, -1), R, (R[0], ("k", (5, -36)), R[2]), look)
        self.both(("tally", 1, "k", 0, 2, "c", None, 0, 1), R, (R[0], ("k", (10, -6)), R[2]), look)
        self.both(("tally", 1, "k", 0, 2, "c", "d", 3, 1), R, R, look)
        self.both(("tally", 1, "k", 0, 2, None, None, 3, 1), R, R, looking(()))

    def test_tally_unfit(self):
        look = looking(A)
        self.unfit(("tally", 1, "c", 0, 2, None, None, 0, 1), R, look)
        self.unfit(("tally", 1, "a", 1, 2, None, None, 0, 1), R, look)
        self.unfit(("tally", 1, "a", 0, 2, None, None, 1, 1), R, look)
        self.unfit(("tally", 1, "a", 0, 2, "b", "m", 2, 1), R, look)
        self.unfit(("tally", 1, "a", 1, 2, "c", "d", 0, 1), R, look)

    def test_tally_at_the_bounds(self):
        read = (("a", (GREATEST,)), ("b", (GREATEST,)), ("c", (-GREATEST,)), ("d", (1,)))
        zero = (("k", (0,)),)
        for sign in (1, -1):
            self.both(("tally", 1, "k", 0, 2, None, "d", 0, sign), zero, (("k", (sign * GREATEST,)),), looking(read))
            self.unfit(("tally", 1, "k", 0, 2, None, None, 0, sign), zero, looking(read))
            self.unfit(("tally", 1, "k", 0, 2, None, "c", 0, sign), zero, looking(read))
            least = (("k", (-sign * GREATEST,)),)
            self.both(("tally", 1, "k", 0, 2, None, "c", 0, sign), least, (("k", (sign * GREATEST,)),), looking(read))

    def test_carry(self):
        self.both(("carry", 1, (), R), (), R)
        self.both(("carry", 1, R, TWELVE), R, TWELVE)
        self.both(("carry", 1, R, R[:2]), R, R[:2])

    def test_carry_unfit(self):
        self.unfit(("carry", 1, R, ()), R[:2])
        self.unfit(("carry", 1, R, ()), ())
        self.unfit(("carry", 1, (), R), R)

    def test_which_pages_are_asked_for(self):
        for deed in (("take", 1, 2, "u", None), ("drop", 1, 2, "u", "v"), ("add", 1, "k", 0, 2, "m", 0, 1),
                     ("tally", 1, "k", 0, 2, None, None, 0, 1)):
            for call in (done, back, fits):
                asked = []
                call(deed, R, looking(A[:2], asked))
                self.assertEqual(set(asked), set(reads_of(deed)))

    def test_examples(self):
        two = (("a", (1,)), ("m", (2,)), ("t", (3,)))
        took = (("m", (2,)), ("t", (3,)))
        self.assertEqual(done(("take", 5, 2, "m", None), (), looking(two)), took)
        drop = ("drop", 2, 5, "m", None)
        self.assertEqual(done(drop, two, lambda page: {5: took}[page]), (("a", (1,)),))
        self.assertEqual(refusal(done, drop, two, lambda page: {5: ()}[page]), ("Unfit", drop))
        added = done(("add", 5, "m", 0, 2, "a", 0, -1), took, looking(two))
        self.assertEqual(added, (("m", (1,)), ("t", (3,))))


class ByChance(unittest.TestCase):
    KEYS = ("a", "b", "c", "d")
    BOUNDS = (None,) + KEYS

    def rows(self, luck):
        keys = sorted(luck.sample(self.KEYS, luck.randint(0, 4)))
        return tuple((key, self.value(luck)) for key in keys)

    def value(self, luck):
        return tuple(luck.choice((0, 1, 2, GREATEST, -GREATEST)) for _ in range(luck.randint(1, 2)))

    def deed(self, luck, rows):
        word = luck.choice(("put", "bump", "rename", "take", "drop", "add", "tally", "carry"))
        key, low, high = luck.choice(self.KEYS), luck.choice(self.BOUNDS), luck.choice(self.BOUNDS)
        index, other, sign = luck.randint(0, 1), luck.randint(0, 1), luck.choice((1, -1))
        cell = luck.choice((dict(rows).get(key), None, self.value(luck)))
        return {
            "put": ("put", 1, key, cell, luck.choice((None, self.value(luck)))),
            "bump": ("bump", 1, key, index, luck.choice((1, -1, GREATEST))),
            "rename": ("rename", 1, key, luck.choice(self.KEYS)),
            "take": ("take", 1, 2, low, high),
            "drop": ("drop", 1, 2, low, high),
            "add": ("add", 1, key, index, 2, luck.choice(self.KEYS), other, sign),
            "tally": ("tally", 1, key, index, 2, low, high, other, sign),
            "carry": ("carry", 1, luck.choice((rows, self.rows(luck))), self.rows(luck)),
        }[word]

    def result(self, call, deed, rows, look):
        try:
            return call(deed, rows, look)
        except Unfit as error:
            self.assertEqual(error.what, deed)
            return None

    def test_back_and_done_belong_together(self):
        luck = chance(41)
        worked = {}
        for _ in range(12000):
            rows = self.rows(luck)
            read = luck.choice((rows, self.rows(luck), ()))
            deed = self.deed(luck, rows)
            if not is_deed(deed):
                continue
            look = looking(read)
            after, before = self.result(done, deed, rows, look), self.result(back, deed, rows, look)
            self.assertEqual(fits(deed, rows, look), after is not None)
            self.assertEqual(before, self.result(done, inverse(deed), rows, look))
            if after is not None:
                worked[deed[0]] = worked.get(deed[0], 0) + 1
                self.assertTrue(is_rows(after))
                self.assertEqual(back(deed, after, look), rows)
            if before is not None:
                self.assertEqual(done(deed, before, look), rows)
        self.assertEqual(len(worked), 8)
        self.assertGreater(min(worked.values()), 100)


if __name__ == "__main__":
    unittest.main()

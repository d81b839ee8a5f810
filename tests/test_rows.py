import unittest

from samples import GREATEST, ROWS, THINGS, TWELVE, refusal
from wendleaf.rows import at, between, is_key, is_rows, is_value, made_rows, with_row

THIRTEEN = TWELVE + (("z", (1,)),)


class Keys(unittest.TestCase):
    def test_lengths(self):
        self.assertFalse(is_key(""))
        self.assertTrue(is_key("a"))
        self.assertTrue(is_key("a" * 12))
        self.assertFalse(is_key("a" * 13))

    def test_signs(self):
        allowed = "abcdefghijklmnopqrstuvwxyz0123456789."
        for code in range(0, 400):
            sign = chr(code)
            self.assertEqual(is_key(sign), sign in allowed, sign)
            self.assertEqual(is_key("k" + sign + "9"), sign in allowed, sign)
        for sign in ("\u0661", "\u00b2", "\ud800", "a\n", "ab c"):
            self.assertFalse(is_key(sign))

    def test_other_kinds(self):
        for thing in (None, True, 1, (), ("a",), 0):
            self.assertFalse(is_key(thing))


class Values(unittest.TestCase):
    def test_lengths(self):
        self.assertFalse(is_value(()))
        for many in range(1, 5):
            self.assertTrue(is_value((7,) * many))
        self.assertFalse(is_value((7,) * 5))

    def test_bounds(self):
        for good in (GREATEST, -GREATEST, 0):
            self.assertTrue(is_value((0, good)))
        for bad in (GREATEST + 1, -GREATEST - 1, True, False, None, "1", (1,)):
            self.assertFalse(is_value((bad,)), bad)
            self.assertFalse(is_value((0, 0, bad)), bad)

    def test_other_kinds(self):
        for thing in (None, True, 1, "1", "a"):
            self.assertFalse(is_value(thing))


class Rows(unittest.TestCase):
    def test_how_many(self):
        for rows in ((), ROWS[:1], ROWS, TWELVE):
            self.assertIs(is_rows(rows), True)
            self.assertEqual(made_rows(rows), rows)
        self.assertIs(is_rows(THIRTEEN), False)
        self.assertEqual(refusal(made_rows, THIRTEEN), ("TooMany", 13))
        self.assertEqual(refusal(made_rows, THIRTEEN + (1, 2)), ("TooMany", 15))

    def test_no_tuple(self):
        for thing in (None, True, 0, 1, "", "a"):
            self.assertFalse(is_rows(thing))
            self.assertEqual(refusal(made_rows, thing), ("BadRows", -1))

    def test_the_first_bad_row_is_told(self):
        bad_items = (
            None, 1, "ab", (), ("b",), ("b", (1,), 1), ("b", ()), ("b", 1), ("B", (1,)), ("", (1,)), (1, (1,)), ("b", None),
            ("b", (True,)), ("b", (False,)), ("b", (1, 2, 3, 4, 5)), ("b", (GREATEST + 1,)), ("b", (-GREATEST - 1,)),
            ((1,), "b"), ("bbbbbbbbbbbbb", (1,)),
        )
        for item in bad_items:
            for index in range(3):
                rows = [("a", (1,)), ("c", (1,)), ("d", (1,))]
                rows[index] = item
                self.assertFalse(is_rows(tuple(rows)), item)
                self.assertEqual(refusal(made_rows, tuple(rows)), ("BadRows", index), item)
            self.assertEqual(refusal(made_rows, (("a", (1,)), item, item)), ("BadRows", 1))

    def test_order(self):
        one, two, three = ("a", (1,)), ("b", (1,)), ("c", (1,))
        for rows, index in (((one, one), 1), ((two, one), 1), ((one, three, two), 2), ((two, one, three), 1)):
            self.assertFalse(is_rows(rows))
            self.assertEqual(refusal(made_rows, rows), ("BadRows", index))
        ascending = tuple((key, (1,)) for key in (".", ".a", "0", "9", "a", "a.", "a0", "aa", "b", "z"))
        self.assertEqual(made_rows(ascending), ascending)

    def test_judges_raise_nothing(self):
        for thing in THINGS:
            for judge in (is_key, is_value, is_rows):
                for asked in (thing, (thing,), (("a", thing),), ((thing, (1,)),)):
                    self.assertIn(judge(asked), (True, False))

    def test_is_rows_agrees_with_made_rows(self):
        for thing in THINGS:
            if is_rows(thing):
                self.assertEqual(made_rows(thing), thing)
            else:
                refusal(made_rows, thing)


class Looking(unittest.TestCase):
    def test_at(self):
        self.assertEqual(at(ROWS, "b.2"), (2, -3))
        self.assertEqual(at(ROWS, "k"), (0, -1, 2, 30))
        for key in ("b", "b.20", "0", "z"):
            self.assertIsNone(at(ROWS, key))
        self.assertIsNone(at((), "a"))

    def test_between(self):
        rows = tuple((key, (1,)) for key in ("a", "ab", "b", "m"))
        self.assertEqual(between(rows, None, None), rows)
        self.assertEqual(between(rows, "ab", None), rows[1:])
        self.assertEqual(between(rows, "aa", None), rows[1:])
        self.assertEqual(between(rows, None, "b"), rows[:2])
        self.assertEqual(between(rows, None, "ba"), rows[:3])
        self.assertEqual(between(rows, "a", "m"), rows[:3])
        self.assertEqual(between(rows, "aa", "aa0"), ())
        self.assertEqual(between(rows, "n", None), ())
        self.assertEqual(between(rows, None, "0"), ())
        self.assertEqual(between((), None, None), ())

    def test_between_with_low_not_below_high(self):
        self.assertEqual(between(ROWS, "k", "k"), ())
        self.assertEqual(between(ROWS, "k", "a"), ())

    def test_with_row(self):
        self.assertEqual(with_row((), "k", (1,)), (("k", (1,)),))
        self.assertEqual(with_row(ROWS, "b", (9,)), (ROWS[0], ("b", (9,)), ROWS[1], ROWS[2]))
        self.assertEqual(with_row(ROWS, ".", (9,)), ((".", (9,)),) + ROWS)
        self.assertEqual(with_row(ROWS, "z", (9,)), ROWS + (("z", (9,)),))
        self.assertEqual(with_row(ROWS, "b.2", (9,)), (ROWS[0], ("b.2", (9,)), ROWS[2]))
        self.assertEqual(with_row(ROWS, "b.2", None), (ROWS[0], ROWS[2]))
        self.assertEqual(with_row(ROWS, "b", None), ROWS)
        self.assertEqual(with_row((), "b", None), ())

    def test_with_a_thirteenth_row(self):
        self.assertEqual(with_row(TWELVE[:11], "z", (1,)), TWELVE[:11] + (("z", (1,)),))
        self.assertEqual(refusal(with_row, TWELVE, "z", (1,)), ("TooMany", 13))
        self.assertEqual(with_row(TWELVE, "z", None), TWELVE)
        self.assertEqual(with_row(TWELVE, "k00", (5,)), (("k00", (5,)),) + TWELVE[1:])
        self.assertEqual(with_row(TWELVE, "k00", None), TWELVE[1:])


if __name__ == "__main__":
    unittest.main()

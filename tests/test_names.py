import unittest

from samples import THINGS, TWELVE
from wendleaf.branches import is_branch_rows, row_of_way
from wendleaf.leaves import is_leaf_rows, leaf_sums
from wendleaf.names import is_name, is_numbers, is_rowname, is_source

MOST = 10 ** 9
WRONG = ("", " ", "a b", "A", "aB", "a.b", ".", "a\n", "\u00e9", "\u0660", "-", "a_", "a,", "t.a ")


class Names(unittest.TestCase):
    def test_names(self):
        for name in ("a", "0", "z9", "abcdef", "000000", "zzzzzz"):
            self.assertIs(is_name(name), True)
            self.assertIs(is_rowname(name), True)
        self.assertIs(is_name("abcdefg"), False)
        for name in WRONG:
            self.assertIs(is_name(name), False, name)

    def test_row_names(self):
        for name in ("abcdefg", "abcdefghijkl", "012345678901"):
            self.assertIs(is_rowname(name), True)
        self.assertIs(is_rowname("abcdefghijklm"), False)
        for name in WRONG + ("t.a",):
            self.assertIs(is_rowname(name), False, name)

    def test_sources(self):
        for name in ("t.a", "s.a", "t.0", "s.abcdef", "t.zzzzzz", "t.t", "s.s"):
            self.assertIs(is_source(name), True)
        for name in WRONG + ("t.", "s.", "t", "a", "u.a", "T.a", "t.abcdefg", "t..", "t.a.b", "t.A", "ta", "s.t.a", "t. a", " t.a", "st.a"):
            self.assertIs(is_source(name), False, name)

    def test_numbers(self):
        for numbers in ((0,), (MOST,), (-MOST,), (1, 2), (MOST, -MOST), (0, 0)):
            self.assertIs(is_numbers(numbers, len(numbers)), True)
            self.assertIs(is_numbers(numbers, 3 - len(numbers)), False)
        for numbers in ((), (MOST + 1,), (-MOST - 1,), (True,), (False,), (None,), ("1",), ((1,),), (1, 2, 3), 1, None, True, "1", "12"):
            self.assertIs(is_numbers(numbers, 1), False, numbers)
        for numbers in ((), (1, MOST + 1), (-MOST - 1, 1), (True, 1), (1, False), (1, None), (1, "1"), ((1, 2), 3), (1, 2, 3), 12, None, "12"):
            self.assertIs(is_numbers(numbers, 2), False, numbers)

    def test_other_things(self):
        for thing in THINGS:
            named = isinstance(thing, str) and 1 <= len(thing) <= 6 and all(sign in "abcdefghijklmnopqrstuvwxyz0123456789" for sign in thing)
            self.assertIs(is_name(thing), named)
            self.assertIs(is_source(thing), False)
            self.assertIn(is_rowname(thing), (True, False))
            for width in (1, 2):
                self.assertIs(is_numbers(thing, width), thing == (0,) and thing[0] is not False and width == 1 or thing in ((0, 0), (1, 1)) and width == 2)


class Leaves(unittest.TestCase):
    def test_rows(self):
        self.assertIs(is_leaf_rows((), 1), True)
        self.assertIs(is_leaf_rows((), 2), True)
        self.assertIs(is_leaf_rows(TWELVE, 1), True)
        self.assertIs(is_leaf_rows(TWELVE, 2), False)
        two = (("a", (MOST, -MOST)), ("abcdefghijkl", (0, 0)))
        self.assertIs(is_leaf_rows(two, 2), True)
        self.assertIs(is_leaf_rows(two, 1), False)

    def test_rows_that_are_none_of_a_leaf(self):
        for row in ((".", (1,)), ("a.b", (1,)), ("t.a", (1,)), ("b", (MOST + 1,)), ("b", (-MOST - 1,)), ("b", (1, 2)), ("b", (1, 2, 3)), ("b", (1, 2, 3, 4))):
            self.assertIs(is_leaf_rows((row,), 1), False)
            self.assertIs(is_leaf_rows((row, ("z", (1,))), 1), False)
            self.assertIs(is_leaf_rows((("-", (1,)), row), 1), False)
        for value in ((1,), (1, MOST + 1), (-MOST - 1, 1), (1, 2, 3), (1, 2, 3, 4)):
            self.assertIs(is_leaf_rows((("a", (1, 2)), ("b", value)), 2), False)

    def test_sums(self):
        self.assertEqual(leaf_sums((), 1), (0, 0, 0))
        self.assertEqual(leaf_sums((), 2), (0, 0, 0))
        self.assertEqual(leaf_sums(TWELVE, 1), (12, 66, 0))
        self.assertEqual(leaf_sums((("a", (5, -1)), ("b", (-7, MOST)), ("c", (0, 2))), 2), (3, -2, MOST + 1))
        self.assertEqual(leaf_sums((("a", (MOST,)), ("b", (MOST,))), 1), (2, 2 * MOST, 0))


class Branches(unittest.TestCase):
    def test_rows(self):
        row = (".", (1, 2, 3, 4))
        twelve = tuple((f"k{n:02}", (0, -1, 99, 10 ** 12)) for n in range(12))
        for rows in ((row,), (row,) + twelve[1:], twelve, (("abcdefghijkl", (1, 2, 3, 4)),), ((".", (-5, 0, 0, 0)), ("0", (32, 1, 1, 1)))):
            self.assertIs(is_branch_rows(rows), True)
        self.assertIs(is_branch_rows(()), False)
        for wrong in (("a.b", (1, 2, 3, 4)), ("..", (1, 2, 3, 4)), ("t.a", (1, 2, 3, 4)), ("b", (1,)), ("b", (1, 2)), ("b", (1, 2, 3))):
            self.assertIs(is_branch_rows((wrong,)), False)
            self.assertIs(is_branch_rows((row, wrong)), False)
            self.assertIs(is_branch_rows((wrong, ("z", (1, 2, 3, 4)))), False)

    def test_ways(self):
        rows = tuple((low, (1, 1, 1, 1)) for low in (".", "b", "bb", "m", "m0"))
        for name, index in (("0", 0), ("a", 0), ("azzz", 0), ("b", 1), ("b0", 1), ("ba", 1), ("bb", 2), ("bba", 2), ("l", 2), ("m", 3),
                            ("m0", 4), ("m00", 4), ("m1", 4), ("z", 4), ("zzzzzzzzzzzz", 4), (".", 0)):
            self.assertEqual(row_of_way(rows, name), index, name)
        self.assertEqual(row_of_way(rows[1:], "a"), -1)
        self.assertEqual(row_of_way(rows[1:], "."), -1)
        self.assertEqual(row_of_way(rows[1:], "b"), 0)
        self.assertEqual(row_of_way(rows[:1], "a"), 0)


if __name__ == "__main__":
    unittest.main()

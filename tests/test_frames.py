import unittest

from samples import GREATEST, ROWS, TWELVE, refusal
from wendleaf.frames import frame_text, read_frame, sum_of


def summed(text):
    """The text with its right sum's line."""
    return text + "sum " + sum_of(text) + "\n"


class Sums(unittest.TestCase):
    def test_known_sums(self):
        self.assertEqual(sum_of(""), "000000")
        self.assertEqual(sum_of("page 0 0\n"), "002165")
        self.assertEqual(sum_of("1 begin"), "002726")
        self.assertEqual(sum_of("ab"), f"{97 + 2 * 98:06}")

    def test_remainder(self):
        text = "z" * 200
        total = 122 * (200 * 201 // 2)
        self.assertGreater(total, 65521)
        self.assertEqual(sum_of(text), f"{total % 65521:06}")
        self.assertEqual(sum_of(chr(65520)), "065520")
        self.assertEqual(sum_of(chr(65521)), "000000")


class Frames(unittest.TestCase):
    def test_examples(self):
        self.assertEqual(frame_text(0, 0, ()), "page 0 0\nsum 002165\n")
        self.assertEqual(frame_text(2, 17, (("a", (1,)), ("m", (2, -5)))), "page 2 17\na 1\nm 2,-5\nsum 010832\n")
        self.assertEqual(refusal(read_frame, "page 0 0\na 1\n"), ("BadText", 2))
        self.assertEqual(refusal(read_frame, "page 0 0\na 01\nsum 000000\n"), ("BadText", 1))
        self.assertEqual(refusal(read_frame, "page 0 0\nsum 002166\n"), ("BadText", 1))

    def test_there_and_back(self):
        for many in range(13):
            for page, number in ((0, 0), (31, GREATEST), (9, 10)):
                for rows in (TWELVE[:many], tuple((key, (-GREATEST,) * 4) for key, _ in TWELVE[:many])):
                    text = frame_text(page, number, rows)
                    self.assertEqual(read_frame(text), (page, number, rows))
                    self.assertLessEqual(len(text), 1000)

    def test_no_whole_line(self):
        for text in ("", "page 0 0", "x", "sum 002165"):
            self.assertEqual(refusal(read_frame, text), ("BadText", 0))

    def test_wrong_first_lines(self):
        firsts = (
            "", "page", "page 0", "page 0 0 0", "page 32 0", "page -1 0", "page 0 -1", f"page 0 {GREATEST + 1}", "page 00 0",
            "page 0 00", "page +1 0", "page 0 +1", "page 1 -0", " page 0 0", "page  0 0", "page 0 0 ", "page 0  0", "Page 0 0",
            "page a 0", "page 0 a", "page\t0 0", "page 0 0\r", "pag 0 0", "sum 000000", "a 1", "page \u0661 0",
        )
        for first in firsts:
            self.assertEqual(refusal(read_frame, summed(first + "\n")), ("BadText", 0), first)
            self.assertEqual(refusal(read_frame, first + "\na 01\n"), ("BadText", 0), first)

    def test_wrong_rows(self):
        wrong = (
            "", "a", "a ", " a 1", "a  1", "a 1 ", "a 1 2", "A 1", "a 01", "a +1", "a -0", "a 00", "a -01", "a 1,", "a ,1", "a 1,,2",
            "a 1, 2", f"a {GREATEST + 1}", f"a {-GREATEST - 1}", "a 1,2,3,4,5", "abcdefghijklm 1", "a 1.0", "a -", "a\t1",
            "a " + "9" * 6000, "a \u0662", "sum", "sum 1 ", "sum 00000", "sum 0000000", "sum 0000a0", "sum 00000 ", "sum  000000",
            "a 1\r",
        )
        for line in wrong:
            self.assertEqual(refusal(read_frame, summed(f"page 0 0\n{line}\n")), ("BadText", 1), line)
            self.assertEqual(refusal(read_frame, summed(f"page 0 0\n0 5\n1 5\n{line}\nz 5\n")), ("BadText", 3), line)

    def test_order_of_rows(self):
        self.assertEqual(refusal(read_frame, summed("page 0 0\nb 1\na 1\n")), ("BadText", 2))
        self.assertEqual(refusal(read_frame, summed("page 0 0\na 1\na 1\n")), ("BadText", 2))
        self.assertEqual(refusal(read_frame, summed("page 0 0\na 1\nc 1\nb 1\nd 1\n")), ("BadText", 3))

    def test_thirteenth_row(self):
        lines = "".join(f"{key} {value[0]}\n" for key, value in TWELVE)
        self.assertEqual(read_frame(summed("page 1 2\n" + lines)), (1, 2, TWELVE))
        self.assertEqual(refusal(read_frame, summed("page 1 2\n" + lines + "z 1\n")), ("BadText", 13))
        self.assertEqual(refusal(read_frame, summed("page 1 2\n" + lines + "z 1\nzz 1\n")), ("BadText", 13))

    def test_rows_whose_key_is_sum(self):
        rows = (("page", (0, 0)), ("sum", (102165,)))
        self.assertEqual(read_frame(frame_text(0, 0, rows)), (0, 0, rows))
        for number in (0, 1, -1, 12345, 100000, 999999, 1000000):
            rows = (("sum", (number,)),)
            self.assertEqual(read_frame(frame_text(3, 4, rows)), (3, 4, rows))
        for value in ((0, 1, 20), (0, -1, 2), (0, 1234), (0, -123)):
            rows = (("sum", value),)
            self.assertEqual(len("sum " + ",".join(map(str, value))), len("sum 002165"))
            self.assertEqual(read_frame(frame_text(0, 0, rows)), (0, 0, rows))
        self.assertEqual(refusal(read_frame, summed("page 0 0\nt 1\nsum 102165\n")), ("BadText", 2))

    def test_wrong_sums(self):
        ahead = "page 0 0\na 1\n"
        right = int(sum_of(ahead))
        for wrong in (0, right - 1, right + 1, 65521, 99999):
            self.assertEqual(refusal(read_frame, f"{ahead}sum {wrong:06}\n"), ("BadText", 2))
            self.assertEqual(refusal(read_frame, f"{ahead}sum {wrong:06}\nb 1\n"), ("BadText", 2))

    def test_no_sum(self):
        self.assertEqual(refusal(read_frame, "page 0 0\n"), ("BadText", 1))
        self.assertEqual(refusal(read_frame, "page 0 0\na 1\nb 1\n"), ("BadText", 3))
        self.assertEqual(refusal(read_frame, "page 0 0\nsum 002165"), ("BadText", 1))
        self.assertEqual(refusal(read_frame, "page 0 0\na 1\nb 0"), ("BadText", 2))
        self.assertEqual(refusal(read_frame, "page 0 0\nsum 102165\n"), ("BadText", 2))

    def test_signs_behind_the_sum(self):
        for many in (0, 1, 12):
            text = frame_text(0, 0, TWELVE[:many])
            for behind in (" ", "\n", "x", "x\n", text, "sum 000000\n"):
                self.assertEqual(refusal(read_frame, text + behind), ("BadText", many + 2), behind)

    def test_one_replaced_sign(self):
        for rows in ((), ROWS, TWELVE[:3] + (("sum", (1,)),)):
            text = frame_text(10, 100, rows)
            for place, old in enumerate(text):
                for sign in "0123456789az.-, \n\t+A\u0663" + chr(ord(old) + 65521):
                    if sign != old:
                        changed = text[:place] + sign + text[place + 1:]
                        self.assertEqual(refusal(read_frame, changed)[0], "BadText", repr(changed))

    def test_what_is_read_is_written_alike(self):
        text = frame_text(10, 100, ROWS)
        pieces = [line + "\n" for line in text.split("\n")[:-1]]
        for count in range(len(pieces) + 1):
            for other in range(len(pieces)):
                changed = "".join(pieces[:count] + [pieces[other]] + pieces[count:])
                self.assertEqual(refusal(read_frame, changed)[0], "BadText")


if __name__ == "__main__":
    unittest.main()

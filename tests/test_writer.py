import unittest

from samples import GREATEST, ROWS, TWELVE, chance
from wendleaf.frames import frame_text, sum_of
from wendleaf.writer import read_shelf, shelf_text

ONE = ((3, 17, ROWS),)
TWO = ((0, 0, ()), (31, GREATEST, TWELVE))
# Keys and numbers that look much like the lines around them.
STRANGE = ((1, 5, (("page", (1, 2)), ("shelf", (2,)), ("sum", (123456,)))), (2, 6, (("sum", (0,)),)), (4, 7, (("sum", (-12345,)),)))
MANY = tuple((page, page + 1, (("k", (page,)),)) for page in range(32))
SHELVES = (ONE, TWO, STRANGE, MANY, ((0, 0, ()),), ((5, 3, ()), (6, 4, ROWS), (7, 5, ())))


def guarded(ahead):
    return f"{ahead}sum {sum_of(ahead)}\n"


class Shelves(unittest.TestCase):
    def test_no_frames(self):
        self.assertEqual(shelf_text(()), "")
        self.assertEqual(read_shelf(""), ())

    def test_texts(self):
        for frames in SHELVES:
            ahead = f"shelf {len(frames)}\n" + "".join(frame_text(*frame) for frame in frames)
            self.assertEqual(shelf_text(frames), guarded(ahead))
        self.assertEqual(shelf_text(((0, 0, ()),)), guarded("shelf 1\npage 0 0\nsum 002165\n"))

    def test_there_and_back(self):
        for frames in SHELVES:
            self.assertEqual(read_shelf(shelf_text(frames)), frames)
        luck = chance(90)
        for _ in range(100):
            pages = sorted(luck.sample(range(32), luck.randint(1, 6)))
            frames = tuple((page, luck.randint(0, 99), luck.choice(((), ROWS, TWELVE, (("sum", (luck.randint(0, 999999),)),)))) for page in pages)
            self.assertEqual(read_shelf(shelf_text(frames)), frames)

    def refused(self, text):
        self.assertIs(read_shelf(text), None, text)

    def test_frames_that_do_not_ascend(self):
        for frames in (ONE + ONE, TWO[::-1], (TWO[0], ONE[0], (2, 4, ())), ((1, 1, ()), (1, 2, ()))):
            self.refused(shelf_text(frames))

    def test_another_count(self):
        for frames in SHELVES:
            texts = "".join(frame_text(*frame) for frame in frames)
            for count in (0, len(frames) - 1, len(frames) + 1, -1, "", f"0{len(frames)}", f"+{len(frames)}", f"{len(frames)} ", f" {len(frames)}"):
                self.refused(guarded(f"shelf {count}\n{texts}"))
        self.refused(guarded("shelf 0\n"))
        self.refused(guarded("shelf\n"))
        self.refused(guarded("shelf 1\n"))
        self.refused(guarded("Shelf 1\n" + frame_text(*ONE[0])))
        self.refused(guarded("shelf 1\n\n" + frame_text(*ONE[0])))

    def test_each_sign_replaced_left_out_or_doubled(self):
        for frames in (ONE, STRANGE, ((0, 0, ()), (1, 0, ()))):
            text = shelf_text(frames)
            for place, sign in enumerate(text):
                for other in "0129 \n,-az\u00e9\ud800":
                    if other != sign:
                        self.refused(text[:place] + other + text[place + 1:])
                if text[:place] + text[place + 1:] != text:
                    self.refused(text[:place] + text[place + 1:])
                self.refused(text[:place] + sign + text[place:])

    def test_cut_and_lengthened(self):
        for frames in (ONE, TWO, STRANGE):
            text = shelf_text(frames)
            for end in range(1, len(text)):
                self.refused(text[:end])
            for more in ("\n", " ", "x", "0", "sum 000000\n", frame_text(*ONE[0]), text):
                self.refused(text + more)
                self.refused(more + text)

    def test_frames_that_are_wrong_in_themselves(self):
        frame = frame_text(*ONE[0])
        for bad in (frame.replace("sum 0", "sum 1"), frame.replace("page 3", "page 32"), frame[:-1] + "0\n", "page 3 17\n", "sum 000000\n",
                    frame.replace("page 3", "page 03"), "a 1\n", frame + "a 1\n", "a 1\n" + frame, frame.replace("\nk", "\na")):
            self.refused(guarded("shelf 1\n" + bad))
            self.refused(guarded("shelf 2\n" + frame_text(1, 1, ()) + bad))

    def test_other_texts(self):
        for text in ("\n", "x", "shelf 0\n", "shelf 1\n", "sum 000000\n", guarded(""), guarded("x\n"), frame_text(*ONE[0]), "\n\n\n", "a\nb\nc\n"):
            self.refused(text)


if __name__ == "__main__":
    unittest.main()

import unittest

from samples import chance, refusal
from wendleaf.disk import Disk, disk_text, read_disk

WRITES = (
    ("put_frame", (3, "ab")),
    ("add_tape", ("x\n",)),
    ("sync", ()),
    ("put_shelf", ("s",)),
    ("cut_tape", ("cut",)),
)


def state(disk):
    return disk_text(disk), disk.writes()


def filled(fuse=None):
    """A disk with two frames, five signs on the tape of which the first three are safe, and a shelf; six writes."""
    disk = Disk(fuse)
    disk.put_frame(7, "seven\n")
    disk.put_frame(0, "")
    disk.add_tape("abc")
    disk.sync()
    disk.add_tape("d\n")
    disk.put_shelf("shelf")
    return disk


class Writing(unittest.TestCase):
    def test_a_new_disk(self):
        for disk in (Disk(), Disk(None), Disk(fuse=None), Disk(5)):
            self.assertEqual([disk.frame(page) for page in range(32)], [None] * 32)
            self.assertEqual(disk.frame_ids(), ())
            self.assertEqual((disk.tape(), disk.safe(), disk.shelf(), disk.writes()), ("", 0, "", 0))

    def test_put_frame(self):
        disk = Disk()
        disk.put_frame(3, "ab")
        self.assertEqual((disk.frame(3), disk.frame(2), disk.frame_ids(), disk.writes()), ("ab", None, (3,), 1))
        disk.put_frame(page=31, text="")
        disk.put_frame(0, "zero")
        disk.put_frame(3, "cd\n")
        self.assertEqual((disk.frame(3), disk.frame(31), disk.frame(0)), ("cd\n", "", "zero"))
        self.assertEqual((disk.frame_ids(), disk.writes()), ((0, 3, 31), 4))
        self.assertEqual((disk.tape(), disk.safe(), disk.shelf()), ("", 0, ""))

    def test_tape(self):
        disk = Disk()
        disk.add_tape("ab")
        self.assertEqual((disk.tape(), disk.safe(), disk.writes()), ("ab", 0, 1))
        disk.sync()
        self.assertEqual((disk.tape(), disk.safe(), disk.writes()), ("ab", 2, 2))
        disk.add_tape("c\n")
        self.assertEqual((disk.tape(), disk.safe(), disk.writes()), ("abc\n", 2, 3))
        disk.cut_tape("xyzzy")
        self.assertEqual((disk.tape(), disk.safe(), disk.writes()), ("xyzzy", 5, 4))
        disk.cut_tape("")
        self.assertEqual((disk.tape(), disk.safe(), disk.writes()), ("", 0, 5))
        self.assertEqual((disk.frame_ids(), disk.shelf()), ((), ""))

    def test_shelf(self):
        disk = Disk()
        disk.put_shelf("one")
        disk.put_shelf("two\n")
        self.assertEqual((disk.shelf(), disk.writes()), ("two\n", 2))
        self.assertEqual((disk.tape(), disk.safe(), disk.frame_ids()), ("", 0, ()))

    def test_writes_that_change_nothing_count(self):
        disk = filled()
        disk.sync()
        text = disk_text(disk)
        for count, (name, arguments) in enumerate((
                ("put_frame", (7, "seven\n")), ("add_tape", ("",)), ("sync", ()), ("put_shelf", ("shelf",)),
                ("cut_tape", ("abcd\n",))), start=1):
            self.assertIsNone(getattr(disk, name)(*arguments))
            self.assertEqual(state(disk), (text, 7 + count))

    def test_any_text_is_accepted(self):
        disk = Disk()
        for text in ("", "\n\n", "disk 1\n", "\u20ac\ud800\t"):
            disk.put_frame(1, text)
            disk.cut_tape(text)
            disk.put_shelf(text)
            self.assertEqual((disk.frame(1), disk.tape(), disk.shelf(), disk.safe()), (text, text, text, len(text)))

    def test_bad_pages(self):
        for fuse in (None, 0):
            disk = Disk(fuse)
            for page in (-1, 32, True, False, None, "0", (0,)):
                self.assertEqual(refusal(disk.frame, page), ("BadPage", page))
                self.assertEqual(refusal(disk.put_frame, page, "x"), ("BadPage", page))
                self.assertEqual(refusal(disk.spoil_frame, page, 0, "x"), ("BadPage", page))
            self.assertEqual(state(disk), state(Disk()))


class Fuses(unittest.TestCase):
    def test_each_write_falls(self):
        for fuse in (0, 1, 4):
            for name, arguments in WRITES:
                disk = Disk(fuse)
                for page in range(fuse):
                    disk.put_frame(page, "f")
                    self.assertEqual(disk.writes(), page + 1)
                before = state(disk)
                for _ in range(3):
                    self.assertEqual(refusal(getattr(disk, name), *arguments), ("Fallen", fuse))
                    self.assertEqual(state(disk), before)
                for other, more in WRITES:
                    self.assertEqual(refusal(getattr(disk, other), *more), ("Fallen", fuse))
                self.assertEqual(state(disk), before)

    def test_writes_before_the_fuse(self):
        for count, (name, arguments) in enumerate(WRITES):
            disk, free = Disk(count + 1), Disk()
            for other, more in WRITES[:count + 1]:
                getattr(disk, other)(*more)
                getattr(free, other)(*more)
            self.assertEqual(state(disk), state(free))
            self.assertEqual(refusal(getattr(disk, name), *arguments), ("Fallen", count + 1))

    def test_a_bad_page_goes_ahead_and_is_not_counted(self):
        disk = Disk(1)
        self.assertEqual(refusal(disk.put_frame, 32, "x"), ("BadPage", 32))
        self.assertEqual(disk.writes(), 0)
        disk.sync()
        self.assertEqual(refusal(disk.put_frame, 32, "x"), ("BadPage", 32))
        self.assertEqual(refusal(disk.put_frame, 31, "x"), ("Fallen", 1))

    def test_wrong_fuses(self):
        for fuse in (-1, True, False, "1", (), (1,)):
            self.assertEqual(refusal(Disk, fuse), ("BadNumber", fuse))
            self.assertEqual(refusal(Disk().fell, 0, fuse), ("BadNumber", fuse))
            self.assertEqual(refusal(read_disk, disk_text(Disk()), fuse), ("BadNumber", fuse))


class Crashes(unittest.TestCase):
    def test_what_is_left(self):
        disk = filled()
        before = state(disk)
        for keep, tape in enumerate(("abc", "abcd", "abcd\n")):
            left = disk.fell(keep)
            self.assertIsInstance(left, Disk)
            self.assertEqual((left.tape(), left.safe(), left.shelf(), left.writes()), (tape, len(tape), "shelf", 0))
            self.assertEqual((left.frame_ids(), left.frame(7), left.frame(0)), ((0, 7), "seven\n", ""))
            self.assertEqual(state(disk), before)

    def test_wrong_keeps(self):
        disk = filled()
        for keep in (-1, 3, True, False, None, "0", ()):
            self.assertEqual(refusal(disk.fell, keep), ("BadNumber", keep))
            self.assertEqual(refusal(disk.fell, keep, -5), ("BadNumber", keep))
        self.assertEqual(refusal(disk.fell, keep=0, fuse=-5), ("BadNumber", -5))
        disk.sync()
        self.assertEqual(refusal(disk.fell, 1), ("BadNumber", 1))
        self.assertEqual(disk.fell(0).tape(), "abcd\n")

    def test_with_a_fuse(self):
        disk = filled(6)
        left = disk.fell(1, 2)
        left.sync()
        left.sync()
        self.assertEqual(refusal(left.sync), ("Fallen", 2))
        self.assertEqual(refusal(disk.sync), ("Fallen", 6))
        free = disk.fell(1)
        for _ in range(20):
            free.sync()
        self.assertEqual(refusal(disk.fell(0, 0).sync), ("Fallen", 0))

    def test_the_disks_change_independently(self):
        disk = filled()
        left = disk.fell(2)
        before = state(disk)
        for name, arguments in WRITES + (("put_frame", (7, "other")),):
            getattr(left, name)(*arguments)
        left.spoil_frame(7, 0, "O")
        left.spoil_tape(0, "C")
        self.assertEqual(state(disk), before)
        kept = state(left)
        disk.put_frame(7, "again")
        disk.put_frame(9, "nine")
        disk.cut_tape("again")
        disk.put_shelf("again")
        disk.spoil_frame(7, 0, "A")
        self.assertEqual(state(left), kept)


class Damage(unittest.TestCase):
    def test_spoil_frame(self):
        disk = filled(6)
        for place, frame in ((0, "!even\n"), (5, "seven!"), (2, "se!en\n")):
            disk = filled(6)
            self.assertIsNone(disk.spoil_frame(7, place, "!"))
            self.assertEqual((disk.frame(7), disk.frame(0), disk.writes()), (frame, "", 6))
        for place in (-1, 6, True, False, None, "0"):
            before = state(disk)
            self.assertEqual(refusal(disk.spoil_frame, 7, place, "!"), ("BadPlace", place))
            self.assertEqual(state(disk), before)
        self.assertEqual(refusal(disk.spoil_frame, 0, 0, "!"), ("BadPlace", 0))

    def test_spoil_a_page_without_a_frame(self):
        disk = filled()
        self.assertEqual(refusal(disk.spoil_frame, 8, 0, "!"), ("BadPage", 8))
        self.assertEqual(refusal(disk.spoil_frame, 8, -1, "!"), ("BadPage", 8))
        self.assertEqual(refusal(disk.spoil_frame, page=True, place=0, sign="!"), ("BadPage", True))
        self.assertEqual(disk.frame_ids(), (0, 7))
        disk.put_frame(1, "one")
        self.assertEqual(refusal(disk.spoil_frame, True, 0, "!"), ("BadPage", True))
        self.assertEqual(refusal(disk.spoil_frame, False, 0, "!"), ("BadPage", False))
        self.assertEqual(disk.frame(1), "one")

    def test_spoil_tape(self):
        for place, tape in ((0, "!bcd\n"), (3, "abc!\n"), (4, "abcd!")):
            disk = filled(6)
            self.assertIsNone(disk.spoil_tape(place, "!"))
            self.assertEqual((disk.tape(), disk.safe(), disk.writes()), (tape, 3, 6))
        for place in (-1, 5, True, False, None, "0"):
            before = state(disk)
            self.assertEqual(refusal(disk.spoil_tape, place, "!"), ("BadPlace", place))
            self.assertEqual(state(disk), before)
        self.assertEqual(refusal(Disk().spoil_tape, 0, "!"), ("BadPlace", 0))


class Texts(unittest.TestCase):
    TEXT = "disk 2\nframe 0 0\n\nframe 7 6\nseven\n\ntape 3 5\nabcd\n\nshelf 5\nshelf\n"

    def refused(self, text):
        self.assertEqual(refusal(read_disk, text), ("BadText", 0), text)
        self.assertEqual(refusal(read_disk, text, -1), ("BadText", 0), text)

    def test_examples(self):
        disk = Disk()
        self.assertEqual(disk_text(disk), "disk 0\ntape 0 0\n\nshelf 0\n\n")
        disk.put_frame(3, "ab")
        disk.add_tape("x")
        self.assertEqual(disk_text(disk), "disk 1\nframe 3 2\nab\ntape 0 1\nx\nshelf 0\n\n")
        self.assertEqual(disk_text(filled()), self.TEXT)

    def test_what_is_read(self):
        disk = read_disk(self.TEXT)
        self.assertEqual((disk.tape(), disk.safe(), disk.shelf(), disk.writes()), ("abcd\n", 3, "shelf", 0))
        self.assertEqual((disk.frame_ids(), disk.frame(0), disk.frame(7)), ((0, 7), "", "seven\n"))
        self.assertEqual(disk_text(disk), self.TEXT)
        self.assertEqual(refusal(disk.fell, 3), ("BadNumber", 3))
        disk = read_disk(text=self.TEXT, fuse=1)
        disk.put_frame(0, "")
        self.assertEqual(refusal(disk.sync), ("Fallen", 1))
        self.assertEqual(disk_text(disk), self.TEXT)
        self.assertEqual(refusal(read_disk(self.TEXT, 0).sync), ("Fallen", 0))

    def test_there_and_back(self):
        luck = chance(3)
        pieces = ("", "\n", "a", "frame 3 2\nab\n", "tape 0 0\n\n", "shelf 0\n\n", "disk 0\n", "\u20ac", "\n\n")
        for _ in range(300):
            disk = Disk()
            for page in luck.sample(range(32), luck.choice((0, 1, 2, 32))):
                disk.put_frame(page, luck.choice(pieces))
            disk.cut_tape(luck.choice(pieces))
            disk.add_tape(luck.choice(pieces))
            disk.put_shelf(luck.choice(pieces))
            text = disk_text(disk)
            other = read_disk(text)
            self.assertEqual(disk_text(other), text)
            self.assertEqual((other.tape(), other.safe(), other.shelf()), (disk.tape(), disk.safe(), disk.shelf()))
            for page in range(32):
                self.assertEqual(other.frame(page), disk.frame(page))

    def test_a_sign_more_or_less(self):
        for place in range(len(self.TEXT)):
            self.refused(self.TEXT[:place] + self.TEXT[place + 1:])
            self.refused(self.TEXT[:place])
        for place in range(len(self.TEXT) + 1):
            for sign in "x\n 0":
                self.refused(self.TEXT[:place] + sign + self.TEXT[place:])

    def test_wrong_texts(self):
        new = "disk 0\ntape 0 0\n\nshelf 0\n\n"
        one = "disk 1\nframe 3 2\nab\ntape 0 1\nx\nshelf 0\n\n"
        two = "disk 2\nframe 3 0\n\nframe 4 0\n\ntape 0 0\n\nshelf 0\n\n"
        for text in (new, one, two):
            self.assertEqual(disk_text(read_disk(text)), text)
        for text, old, instead in (
                (new, "disk 0", "disk 1"), (new, "disk 0", "disk 00"), (new, "disk 0", "disk -0"), (new, "disk 0", "disk -1"),
                (new, "disk 0", "disk"), (new, "disk 0", "disk 0 0"), (new, "disk 0", "Disk 0"), (new, "disk 0", "disk  0"),
                (new, "tape 0 0", "tape 0"), (new, "tape 0 0", "tape 1 0"), (new, "tape 0 0", "tape 0 00"),
                (new, "tape 0 0", "tape -1 0"), (new, "tape 0 0", "tape 0 0 0"), (new, "tape 0 0", "tape 0 +0"),
                (new, "shelf 0", "shelf 00"), (new, "shelf 0", "shelf 1"), (new, "shelf 0", "shelf -1"), (new, "shelf 0", "shelf"),
                (one, "disk 1", "disk 0"), (one, "disk 1", "disk 2"), (one, "disk 1", "disk 01"), (one, "frame 3", "frame 32"),
                (one, "frame 3", "frame -1"), (one, "frame 3", "frame 03"), (one, "frame 3 2", "frame 3 1"),
                (one, "frame 3 2", "frame 3 02"), (one, "frame 3 2", "frame 3 3"), (one, "frame 3 2", "frame 3 -12"),
                (one, "tape 0 1", "tape 2 1"), (one, "tape 0 1", "tape 00 1"), (one, "tape 0 1", "tape 1 01"),
                (one, "frame 3 2", "frame 3 " + "9" * 6000), (one, "disk 1", "disk " + "9" * 15), (one, "ab\n", "ab\n\n"),
                (two, "frame 4", "frame 3"), (two, "frame 4", "frame 2"), (two, "frame 4", "frame 40"),
        ):
            self.assertIn(old, text)
            self.refused(text.replace(old, instead))
        self.refused("disk 999999999999999\nframe 3 -11\n")
        self.refused(new + new)
        self.refused("")
        self.refused("\n")
        self.refused(new[:-1])
        self.refused(new.replace("\n", "\r\n"))

    def test_bad_text_goes_ahead_of_a_bad_fuse(self):
        self.assertEqual(refusal(read_disk, "x", -1), ("BadText", 0))
        self.assertEqual(refusal(read_disk, self.TEXT, -1), ("BadNumber", -1))


if __name__ == "__main__":
    unittest.main()

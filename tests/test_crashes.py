import unittest

from samples import History, chance, pages_of, some_deed
from wendleaf.disk import Disk, disk_text
from wendleaf.errors import Fallen
from wendleaf.frames import frame_text, read_frame
from wendleaf.knots import knots, may_write
from wendleaf.logread import bare_of, live_of, newest, read_tape, roll_text, version_of
from wendleaf.logs import entry_line
from wendleaf.opening import opened
from wendleaf.plans import mendable
from wendleaf.writer import read_shelf


class Crashes(unittest.TestCase):
    """Any calls in any order, against a plain model; and crashes at every write."""

    CALLS = ("begin", "do", "do", "do", "do", "do", "do", "end", "give_up", "write", "write_knot", "flush_log", "sync_log", "write_all",
             "checkpoint", "cut_head", "bad")

    def call(self, luck, work):
        what = luck.choice(self.CALLS)
        try:
            if what == "do":
                work.do(some_deed(luck, work.page, 5))
            elif what == "bad":
                work.do(("bump", 0, "nokey", 0, 1))
            elif what in ("write", "write_knot"):
                getattr(work, what)(luck.randrange(6))
            else:
                getattr(work, what)()
        except ValueError as error:
            if error.__class__.__name__ == "Fallen":
                raise
            self.assertIn(error.__class__.__name__, ("Open", "NotOpen", "NotYet", "Unfit", "Full"))

    def test_all_that_can_be_seen(self):
        for seed in range(40):
            luck = chance(seed)
            disk = Disk()
            work = opened(disk, luck.choice((1, 2, 4, 32)))
            history = History()
            for _ in range(60):
                self.call(luck, work)
                history.remember(work)
                self.check(disk, work, history)

    def check(self, disk, work, history):
        roll = work.roll()
        rows, _ = history.rows_at(roll[-1][0])
        self.assertEqual(pages_of(work), rows)
        self.assertEqual([work.number(page) for page in range(6)], [newest(roll, page) for page in range(6)])
        self.assertEqual(disk.tape() + "".join(entry_line(entry) for entry in work.pending()), roll_text(roll))
        self.assertEqual(roll[len(roll) - len(work.pending()):], work.pending())
        self.assertEqual(work.live(), live_of(roll))
        self.assertEqual(disk.shelf(), "")
        log = bare_of(roll)
        image = []
        for page in range(32):
            frame = disk.frame(page)
            number = int(frame.split()[2]) if frame is not None else 0
            image.append(version_of(roll, page, number))
            self.assertEqual(page in work.dirty(), number < newest(roll, page))
            if page not in work.dirty():
                self.assertEqual(frame, frame_text(page, number, rows[page]) if number > 0 or frame is not None else None)
        self.assertEqual(work.image(), tuple(image))
        for page in range(6):
            self.assertIs(work.may_go(page), page not in work.dirty() or may_write(log, tuple(image), (page,)))
        self.assertIs(may_write(log, tuple(image), ()), True)
        for knot in knots(log):
            self.assertIs(may_write(log, tuple(image), knot), True)

    def check_what_is_left(self, disk):
        """What holds behind every write, straight by the words of [19.3]."""
        safe = read_tape(disk.tape()[:disk.safe()])[0]
        unsafe = len(disk.tape()) - disk.safe()
        for keep in {0, unsafe // 3, unsafe // 2, unsafe}:
            roll, _ = read_tape(disk.fell(keep).tape())
            frames = {page: read_frame(disk.frame(page)) for page in disk.frame_ids()}
            image = []
            for shelved in ({}, {frame[0]: frame for frame in read_shelf(disk.shelf())}):
                image.append(self.image_of_frames(roll, safe[-1][0], {**frames, **shelved}))
            self.assertIs(mendable(bare_of(roll), image[1]), True)

    def image_of_frames(self, roll, safe, frames):
        image = []
        for page in range(32):
            number = frames[page][1] if page in frames else 0
            self.assertGreaterEqual(number, roll[0][2][page])
            self.assertLessEqual(number, safe)
            self.assertIsNotNone(version_of(roll, page, number))
            image.append(version_of(roll, page, number))
        return tuple(image)

    def last_on_tape(self, disk):
        """The number of the last entry that opening finds on the tape."""
        return read_tape(disk.tape())[0][-1][0]

    def check_opened(self, work, left, history):
        """What holds of a work that was just opened, and that opening it once more writes nothing."""
        last = self.last_on_tape(left)
        _, finished = history.rows_at(last)
        self.assertEqual(pages_of(work), finished)
        self.assertEqual(work.roll()[-1][0], last + len(work.pending()))
        self.assertIs(work.live(), None)
        writes, text = left.writes(), disk_text(left)
        again = opened(left)
        self.assertEqual((left.writes(), disk_text(left)), (writes, text))
        self.assertEqual((again.roll(), pages_of(again)), (work.roll(), finished))
        self.assertEqual(again.begin(), work.roll()[-1][0] + 1)

    def crash_while_opening(self, luck, left, history):
        """Opens what is left, falls at each write of opening, and opens what that leaves."""
        fuse = 0
        while True:
            again = left.fell(0, fuse)
            try:
                work = opened(again, luck.choice((1, 2, 32)))
            except Fallen:
                self.assertEqual(again.writes(), fuse)
                self.check_what_is_left(again)
                keep = luck.choice((0, luck.randint(0, len(again.tape()) - again.safe()), len(again.tape()) - again.safe()))
                third = again.fell(keep)
                self.check_opened(opened(third, luck.choice((1, 3, 32))), third, history)
                fuse += 1
                continue
            self.check_opened(work, again.fell(0), history)
            return

    def test_crashes_at_every_write(self):
        for seed in range(16):
            program, room = chance(seed), (1, 2, 3, 32)[seed % 4]
            disk = Disk()
            work = opened(disk, room)
            history = History()
            for _ in range(45):
                self.call(program, work)
                history.remember(work)
            for fuse in range(disk.writes() + 1):
                luck = chance(seed)
                fallen = Disk(fuse)
                work = opened(fallen, room)
                try:
                    for _ in range(45):
                        self.call(luck, work)
                except Fallen as error:
                    self.assertEqual(error.what, fuse)
                self.assertEqual(fallen.writes(), fuse)
                self.check_what_is_left(fallen)
                unsafe = len(fallen.tape()) - fallen.safe()
                for keep in sorted({0, luck.randint(0, unsafe), unsafe}):
                    self.crash_while_opening(luck, fallen.fell(keep), history)

    def test_one_crash_behind_another(self):
        """A store that goes on behind each crash, with numbers that go on, over many crashes."""
        for seed in range(10):
            luck = chance(seed + 50)
            disk = Disk(luck.randint(0, 25))
            history = History()
            crashes = 0
            while crashes < 12:
                try:
                    work = opened(disk, luck.choice((1, 2, 3, 32)))
                    history.forget(self.last_on_tape(disk))
                    self.assertEqual(pages_of(work), history.rows_at(self.last_on_tape(disk))[1])
                    while True:
                        history.remember(work)
                        self.call(luck, work)
                except Fallen:
                    crashes += 1
                    self.check_what_is_left(disk)
                    disk = disk.fell(luck.randint(0, len(disk.tape()) - disk.safe()), luck.randint(0, 25))


if __name__ == "__main__":
    unittest.main()

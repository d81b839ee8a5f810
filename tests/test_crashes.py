import unittest

from samples import chance, fresh_work, opened_work, some_deed
from wendleaf.deedrun import done
from wendleaf.deeds import inverse, page_of
from wendleaf.disk import Disk
from wendleaf.frames import frame_text, read_frame
from wendleaf.knots import knots, may_write
from wendleaf.logread import bare_of, live_of, newest, read_tape, roll_text, version_of
from wendleaf.logs import entry_line
from wendleaf.plans import mendable
from wendleaf.writer import read_shelf


class Crashes(unittest.TestCase):
    """Any calls in any order, against a plain model; and crashes at every write."""

    CALLS = ("begin", "do", "do", "do", "do", "do", "do", "end", "give_up", "write", "write_knot", "flush_log", "sync_log", "write_all",
             "checkpoint", "cut_head", "bad")

    def call(self, luck, work):
        what = luck.choice(self.CALLS)
        try:
            if what == "do":
                work.do(some_deed(luck, work.page, 5))
            elif what == "bad":
                work.do(("bump", 0, "nokey", 0, 1))
            elif what in ("write", "write_knot"):
                getattr(work, what)(luck.randrange(6))
            else:
                getattr(work, what)()
        except ValueError as error:
            if error.__class__.__name__ == "Fallen":
                raise
            self.assertIn(error.__class__.__name__, ("Open", "NotOpen", "NotYet", "Unfit", "Full"))

    def remember(self, history, work):
        for number, mark, part in work.roll()[1:]:
            history[number] = (mark, part)

    def rows_at(self, history, last):
        """The rows behind the entry with this number; an open work is undone."""
        rows = {page: () for page in range(32)}
        live = []
        for number in range(1, last + 1):
            mark, part = history[number]
            if mark in ("begin", "end"):
                live = []
                continue
            deed = part if mark == "deed" else part[1]
            rows[page_of(deed)] = done(deed, rows[page_of(deed)], rows.get)
            if mark == "deed":
                live.append(deed)
            else:
                live.pop()
        finished = dict(rows)
        for deed in reversed(live):
            finished[page_of(deed)] = done(inverse(deed), finished[page_of(deed)], finished.get)
        return rows, finished

    def test_all_that_can_be_seen(self):
        for seed in range(40):
            luck = chance(seed)
            disk = Disk()
            work = fresh_work(disk, luck.choice((1, 2, 4, 32)))
            history = {}
            for _ in range(60):
                self.call(luck, work)
                self.remember(history, work)
                self.check(disk, work, history)

    def check(self, disk, work, history):
        roll = work.roll()
        rows, _ = self.rows_at(history, roll[-1][0])
        self.assertEqual([work.page(page) for page in range(32)], [rows[page] for page in range(32)])
        self.assertEqual([work.number(page) for page in range(6)], [newest(roll, page) for page in range(6)])
        self.assertEqual(disk.tape() + "".join(entry_line(entry) for entry in work.pending()), roll_text(roll))
        self.assertEqual(roll[len(roll) - len(work.pending()):], work.pending())
        self.assertEqual(work.live(), live_of(roll))
        self.assertEqual(disk.shelf(), "")
        log = bare_of(roll)
        image = []
        for page in range(32):
            frame = disk.frame(page)
            number = int(frame.split()[2]) if frame is not None else 0
            image.append(version_of(roll, page, number))
            self.assertEqual(page in work.dirty(), number < newest(roll, page))
            if page not in work.dirty():
                self.assertEqual(frame, frame_text(page, number, rows[page]) if number > 0 or frame is not None else None)
        self.assertEqual(work.image(), tuple(image))
        for page in range(6):
            self.assertIs(work.may_go(page), page not in work.dirty() or may_write(log, tuple(image), (page,)))
        self.assertIs(may_write(log, tuple(image), ()), True)
        for knot in knots(log):
            self.assertIs(may_write(log, tuple(image), knot), True)

    def check_what_is_left(self, disk):
        """What holds behind every write, straight by the words of [19.3]."""
        safe = read_tape(disk.tape()[:disk.safe()])[0]
        unsafe = len(disk.tape()) - disk.safe()
        for keep in {0, unsafe // 3, unsafe // 2, unsafe}:
            roll, _ = read_tape(disk.fell(keep).tape())
            frames = {page: read_frame(disk.frame(page)) for page in disk.frame_ids()}
            image = []
            for shelved in ({}, {frame[0]: frame for frame in read_shelf(disk.shelf())}):
                image.append(self.image_of_frames(roll, safe[-1][0], {**frames, **shelved}))
            self.assertIs(mendable(bare_of(roll), image[1]), True)

    def image_of_frames(self, roll, safe, frames):
        image = []
        for page in range(32):
            number = frames[page][1] if page in frames else 0
            self.assertGreaterEqual(number, roll[0][2][page])
            self.assertLessEqual(number, safe)
            self.assertIsNotNone(version_of(roll, page, number))
            image.append(version_of(roll, page, number))
        return tuple(image)

    def crash(self, luck, disk, history):
        """Opens what is left after a crash, and crashes again while it is opened."""
        self.check_what_is_left(disk)
        left = disk.fell(luck.choice((0, len(disk.tape()) - disk.safe(), luck.randint(0, len(disk.tape()) - disk.safe()))))
        while True:
            again = left.fell(0, luck.choice((None, 0, 1, 2, 3, 7)))
            try:
                work = opened_work(again)
            except ValueError as error:
                self.assertEqual(error.__class__.__name__, "Fallen")
                self.check_what_is_left(again)
                left = again.fell(luck.randint(0, len(again.tape()) - again.safe()))
                continue
            last = max(number for number, mark, _ in work.roll() if number not in [entry[0] for entry in work.pending()])
            _, finished = self.rows_at(history, last)
            self.assertEqual([work.page(page) for page in range(32)], [finished[page] for page in range(32)])
            return

    def test_crashes_at_every_write(self):
        for seed in range(12):
            program, room = chance(seed), (1, 2, 4, 32)[seed % 4]
            disk = Disk()
            work = fresh_work(disk, room)
            history = {}
            for _ in range(45):
                self.call(program, work)
                self.remember(history, work)
            for fuse in range(disk.writes() + 1):
                luck = chance(seed)
                fallen = Disk(fuse)
                work = fresh_work(fallen, room)
                try:
                    for _ in range(45):
                        self.call(luck, work)
                except ValueError as error:
                    self.assertEqual((error.__class__.__name__, error.what), ("Fallen", fuse))
                self.assertEqual(fallen.writes(), fuse)
                self.crash(chance(seed + fuse), fallen, history)


if __name__ == "__main__":
    unittest.main()

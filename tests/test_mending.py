import unittest

from samples import chance, disk_of, refusal, some_deed
from wendleaf.deedrun import done
from wendleaf.deeds import page_of
from wendleaf.disk import Disk, read_disk
from wendleaf.frames import frame_text
from wendleaf.known import known
from wendleaf.logread import bare_of, deeds_of, number_at, read_tape, roll_text, version_of
from wendleaf.logs import entry_line
from wendleaf.losers import begin_moment
from wendleaf.mending import image_of, puts, stands_of, wounded_by
from wendleaf.opening import opened
from wendleaf.plans import mendable, plan
from wendleaf.writer import shelf_text

FIRST = (0, "head", (0,) * 32)
PUT = ("put", 0, "k", None, (5,))
TAKE = ("take", 1, 0, None, None)
DROP = ("drop", 0, 1, None, None)
ROWS = (("k", (5,)),)
BLANK = (0, ())
NEW = (FIRST, (1, "begin", None), (2, "deed", PUT), (3, "deed", TAKE), (4, "deed", DROP), (5, "end", None))
# A head that knows of pages 0 and 1; behind it page 0 is bumped and page 1 reads it.
BUMP = ("bump", 0, "k", 0, 1)
ADD = ("add", 1, "k", 0, 0, "k", 0, 1)
LATER = ((7, "head", (4, 6) + (0,) * 30), (8, "begin", None), (9, "deed", BUMP), (10, "deed", ADD), (11, "end", None))


def stand(disk):
    return stands_of(disk)[2]


def number_rows(number):
    return (("k", (number,)),)


class Stands(unittest.TestCase):
    def test_a_new_disk(self):
        self.assertEqual(stands_of(Disk()), ((FIRST,), 0, (BLANK,) * 32))

    def test_the_roll_and_the_good_part(self):
        text = roll_text(NEW)
        self.assertEqual(stands_of(disk_of(NEW, rest="6 beg")), (NEW, len(text), (BLANK,) * 32))
        self.assertEqual(stands_of(disk_of(NEW))[:2], (NEW, len(text)))

    def test_frames_of_versions(self):
        self.assertEqual(stand(disk_of(NEW, ((0, (2, ROWS)), (1, (3, ROWS)))))[:3], ((2, ROWS), (3, ROWS), BLANK))
        self.assertEqual(stand(disk_of(NEW, ((0, (4, ())), (1, (3, ROWS)))))[:3], ((4, ()), (3, ROWS), BLANK))
        self.assertEqual(stand(disk_of(NEW, ((0, (0, ())), (1, (0, ())))))[:2], (BLANK, BLANK))
        later = disk_of(LATER, ((0, (4, number_rows(1))), (1, (10, number_rows(9)))))
        self.assertEqual(stand(later), ((4, number_rows(1)), (10, number_rows(9))) + (BLANK,) * 30)
        later = disk_of(LATER, ((0, (9, number_rows(2))), (1, (6, number_rows(7)))))
        self.assertEqual(stand(later)[:2], ((9, number_rows(2)), (6, number_rows(7))))

    def test_frames_that_are_not_right(self):
        right = frame_text(0, 2, ROWS)
        wrong = ((3, ROWS), (1, ()), (5, ()), frame_text(1, 2, ROWS), "", "x", right[:-1], right + "\n", right.replace("5", "6"), (0, ROWS),
                 "\u00e9\ud800")
        for frame in wrong:
            self.assertEqual(stand(disk_of(NEW, ((0, frame),)))[:2], (BLANK, BLANK), frame)
        for frame in wrong + ((2, ROWS), (0, ()), (8, ()), (10, ()), (6, ROWS), (7, ())):
            self.assertEqual(stand(disk_of(LATER, ((0, frame), (1, (6, number_rows(7))))))[:3], (None, (6, number_rows(7)), BLANK), frame)

    def test_pages_without_a_frame(self):
        self.assertEqual(stand(disk_of(LATER)), (None, None) + (BLANK,) * 30)
        self.assertEqual(stand(disk_of(LATER, ((5, (0, ())), (6, "x"), (7, (0, ROWS))))), (None, None) + (BLANK,) * 30)

    def test_small_numbers_and_those_of_other_pages(self):
        roll = ((1, "head", (1,) * 32), (2, "begin", None))
        self.assertEqual(stand(disk_of(roll, ((0, (1, ROWS)), (1, (1, ())), (2, (2, ())), (3, (0, ()))))), ((1, ROWS), (1, ())) + (None,) * 30)
        roll = ((9, "head", (7,) * 32),)
        self.assertEqual(stand(disk_of(roll, ((0, (7, ROWS)), (1, "x")))), ((7, ROWS),) + (None,) * 31)

    def test_example_e(self):
        head = (5, "head", (0, 3) + (0,) * 30)
        disk = disk_of((head,), ((0, (0, ())), (1, (0, ())), (7, frame_text(7, 0, ()).replace("sum", "Sum"))))
        self.assertEqual(stand(disk), (BLANK, None) + (BLANK,) * 30)

    def test_a_shelf(self):
        shelf = shelf_text(((0, 9, number_rows(2)), (1, 10, number_rows(9))))
        for frames in ((), ((0, "x"), (1, "y")), ((0, (4, number_rows(1))), (1, (6, number_rows(7)))), ((0, (9, number_rows(2))),)):
            self.assertEqual(stand(disk_of(LATER, frames, shelf))[:3], ((9, number_rows(2)), (10, number_rows(9)), BLANK))

    def test_frames_beside_those_of_the_shelf(self):
        shelf = shelf_text(((1, 10, number_rows(9)),))
        self.assertEqual(stand(disk_of(LATER, ((0, (9, number_rows(2))), (1, (6, ()))), shelf))[:2], ((9, number_rows(2)), (10, number_rows(9))))
        self.assertEqual(stand(disk_of(LATER, ((1, (6, ())),), shelf))[:2], (None, (10, number_rows(9))))

    def test_a_shelf_with_frames_that_are_not_right(self):
        right = ((0, (9, number_rows(2))), (1, (6, number_rows(7))), (2, (0, ())))
        for page, number, rows in ((0, 5, ()), (0, 0, ROWS), (1, 9, ()), (0, 0, ())):
            expected = [(9, number_rows(2)), (6, number_rows(7)), BLANK]
            expected[page] = None
            self.assertEqual(stand(disk_of(LATER, right, shelf_text(((page, number, rows),))))[:3], tuple(expected))
        self.assertEqual(stand(disk_of(LATER, right, shelf_text(((2, 0, ROWS),))))[:3], ((9, number_rows(2)), (6, number_rows(7)), BLANK))

    def test_a_text_that_is_no_shelf(self):
        right = ((0, (9, number_rows(2))), (1, (6, number_rows(7))))
        shelf = shelf_text(((0, 4, number_rows(1)), (1, 10, number_rows(9))))
        for text in ("x", "\n", shelf[:-1], shelf + "x", shelf.replace("shelf 2", "shelf 3"), frame_text(0, 4, number_rows(1))):
            self.assertEqual(stand(disk_of(LATER, right, text))[:2], ((9, number_rows(2)), (6, number_rows(7))))

    def test_the_last_rule(self):
        ring = ((0, (4, ())), (1, (0, ())))
        self.assertIs(mendable(bare_of(NEW), (2, 0) + (0,) * 30), False)
        self.assertEqual(stand(disk_of(NEW, ring)), (BLANK,) * 32)
        self.assertEqual(stand(disk_of(NEW, ring[:1] + ((1, "x"),))), (BLANK,) * 32)
        self.assertEqual(stand(disk_of(NEW, ((0, (4, ())), (1, (3, ROWS))))), ((4, ()), (3, ROWS)) + (BLANK,) * 30)
        work = ((8, "begin", None), (9, "deed", PUT), (10, "deed", TAKE), (11, "deed", DROP), (12, "end", None))
        head = (7, "head", (0,) * 32)
        self.assertEqual(stand(disk_of((head,) + work, ((0, (11, ())), (1, (0, ())))))[:2], ((11, ()), BLANK))

    def test_a_log_that_has_lost_its_end(self):
        for roll, lines in ((NEW, 5), (NEW[:1], 0), (NEW[:3], 2), (LATER, 5), (LATER[:1], 1)):
            last = roll[-1][0]
            for rest in ("", "6 beg"):
                for number in (last + 1, 10 ** 12):
                    lost = ("BadTape", lines)
                    ahead = ((3, (number, ROWS)),)
                    self.assertEqual(refusal(stands_of, disk_of(roll, ahead, "", rest)), lost)
                    self.assertEqual(refusal(stands_of, disk_of(roll, (), shelf_text(((3, number, ROWS),)), rest)), lost)
                    self.assertEqual(refusal(stands_of, disk_of(roll, ((3, "x"),), shelf_text(((3, number, ()),)), rest)), lost)
                    self.assertEqual(refusal(stands_of, disk_of(roll, ahead, shelf_text(((4, 0, ()),)), rest)), lost)
                    self.assertEqual(refusal(stands_of, disk_of(roll, ahead, shelf_text(((3, 0, ()),)) + "x", rest)), lost)
                    self.assertEqual(stand(disk_of(roll, ahead, shelf_text(((3, 0, ()),)), rest))[3], BLANK)
                self.assertEqual(stand(disk_of(roll, ((3, (last, ())),)))[3], BLANK)
                self.assertEqual(stand(disk_of(roll, ((3, frame_text(4, last + 1, ())), (4, frame_text(4, last + 1, ()) + "x"))))[3:5], (BLANK, BLANK))

    def test_a_frame_under_one_of_the_shelf_does_not_count(self):
        disk = read_disk(
            "disk 1\nframe 0 20\npage 0 6\nsum 002213\n\ntape 54 54\n1 begin 002726\n2 deed put 0 k - 5 010796\n3 end 001358\n\n"
            "shelf 43\nshelf 1\npage 0 2\nk 5\nsum 004369\nsum 030671\n\n")
        roll = (FIRST, (1, "begin", None), (2, "deed", PUT), (3, "end", None))
        self.assertEqual(stands_of(disk), (roll, 54, ((2, ROWS),) + (BLANK,) * 31))
        self.assertEqual(opened(disk).page(0), ROWS)
        self.assertEqual(disk.frame(0), frame_text(0, 2, ROWS))

    def test_bad_tapes_go_first(self):
        disk = disk_of(NEW[:2], ((3, (99, ())),))
        disk.add_tape("x\n")
        self.assertEqual(refusal(stands_of, disk), ("BadTape", 1))
        disk.add_tape("y\nz")
        self.assertEqual(refusal(stands_of, disk), ("BadTape", 1))

    def test_nothing_is_written(self):
        disk = disk_of(LATER, ((0, "x"), (7, "y")), "z", "rest")
        before = disk.writes()
        stands_of(disk)
        self.assertEqual(disk.writes(), before)


class Images(unittest.TestCase):
    def test_images(self):
        self.assertEqual(image_of(NEW, (BLANK,) * 32), (0,) * 32)
        self.assertEqual(image_of(NEW, ((4, ()), (3, ROWS)) + (BLANK,) * 30), (2, 1) + (0,) * 30)
        self.assertEqual(image_of(LATER, (None, (6, ())) + (BLANK,) * 30), (None,) + (0,) * 31)
        self.assertEqual(image_of(LATER, ((9, ()), None) + (BLANK,) * 30), (1, None) + (0,) * 30)

    def test_a_page_that_has_the_heads_number(self):
        roll = ((9, "head", (9,) * 32), (10, "begin", None), (11, "deed", BUMP))
        self.assertEqual(image_of(roll, ((9, ROWS),) * 32), (0,) * 32)
        self.assertEqual(image_of(roll, ((11, ROWS),) + ((9, ROWS),) * 31), (1,) + (0,) * 31)


class Wounds(unittest.TestCase):
    def test_mendable_images(self):
        for stands in ((BLANK,) * 32, ((4, ()), (3, ROWS)) + (BLANK,) * 30, ((2, ROWS),) + (BLANK,) * 31):
            self.assertEqual(wounded_by(NEW, stands), ())
        self.assertEqual(wounded_by(LATER, ((9, ROWS), (6, ROWS)) + (BLANK,) * 30), ())
        self.assertEqual(wounded_by((FIRST,), (BLANK,) * 32), ())

    def test_lost_pages(self):
        self.assertEqual(wounded_by(LATER, (None, (6, ROWS)) + (BLANK,) * 30), (0, 1))
        self.assertEqual(wounded_by(LATER, (None, (10, ROWS)) + (BLANK,) * 30), (0,))
        self.assertEqual(wounded_by(LATER, ((4, ROWS), None) + (BLANK,) * 30), (1,))
        self.assertEqual(wounded_by(LATER, (None, None) + (BLANK,) * 30), (0, 1))
        self.assertEqual(wounded_by(LATER, ((4, ROWS), (6, ROWS)) + (BLANK,) * 29 + (None,)), (31,))

    def test_example_f(self):
        roll = ((4, "head", (2, 3) + (0,) * 30), (5, "begin", None), (6, "deed", ("add", 1, "a", 0, 0, "a", 0, 1)))
        disk = disk_of(roll, ((0, "x"), (1, (6, (("a", (3,)),)))))
        read, _, stands = stands_of(disk)
        self.assertEqual((read, stands[:2]), (roll, (None, (6, (("a", (3,)),)))))
        self.assertEqual(known(bare_of(roll), image_of(roll, stands))[:2], (None, (1, 1)))
        self.assertEqual(begin_moment(roll), 0)
        self.assertEqual(wounded_by(roll, stands), (0, 1))
        self.assertEqual(refusal(puts, roll, stands), ("Wounded", (0, 1)))
        self.assertEqual(refusal(opened, disk), ("Wounded", (0, 1)))
        ended = roll + ((7, "end", None),)
        self.assertEqual(wounded_by(ended, stands), (0,))

    def test_pages_in_a_ring(self):
        head = (7, "head", (4, 6) + (0,) * 30)
        roll = (head, (8, "begin", None), (9, "deed", ("add", 0, "k", 0, 1, "k", 0, 1)), (10, "deed", ADD), (11, "end", None))
        self.assertEqual(wounded_by(roll, ((4, ROWS), (10, ROWS)) + (BLANK,) * 30), (0,))
        self.assertEqual(wounded_by(roll[:-1], ((4, ROWS), (10, ROWS)) + (BLANK,) * 30), (0, 1))
        self.assertEqual(wounded_by(roll, ((9, ROWS), (6, ROWS)) + (BLANK,) * 30), ())

    def test_by_the_words_of_the_document(self):
        luck = chance(95)
        seen = set()
        for _ in range(150):
            disk = Disk()
            work = opened(disk)
            for count in range(3):
                work.begin()
                for _ in range(luck.randint(1, 4)):
                    work.do(some_deed(luck, work.page, 3))
                if count < 2 or luck.random() < 0.5:
                    work.end()
                if count == 0:
                    work.checkpoint()
            roll = work.roll()
            log = bare_of(roll)
            stands = []
            for page in range(32):
                numbers = [roll[0][2][page]] + [number for number, deed in deeds_of(roll) if page_of(deed) == page]
                stands.append(None if page < 3 and luck.random() < 0.2 else (luck.choice(numbers), ()))
            image = tuple(None if pair is None else version_of(roll, page, pair[0]) for page, pair in enumerate(stands))
            self.assertEqual(image_of(roll, tuple(stands)), image)
            lots = known(log, image)
            moment = len(log[1]) if work.live() is None else len(log[1]) - len(work.live())
            expected = []
            for page, lot in enumerate(lots):
                wanted = [sum(1 for deed in log[1][:s] if deed[0] == page) for s in (moment, len(log[1]))]
                if lot is None or not all(lot[0] <= version <= lot[1] for version in wanted):
                    expected.append(page)
            if mendable(log, image):
                expected = []
            self.assertEqual(wounded_by(roll, tuple(stands)), tuple(expected))
            if expected:
                self.assertEqual(refusal(puts, roll, tuple(stands)), ("Wounded", tuple(expected)))
            seen.add(len(expected))
        self.assertGreaterEqual(seen, {0, 1, 2, 3})


class Puts(unittest.TestCase):
    def test_example_a(self):
        stands = (BLANK, (3, ROWS)) + (BLANK,) * 30
        self.assertEqual(plan(bare_of(NEW), image_of(NEW, stands)), ((1, 1), (2, -1), (2, 1), (3, 1)))
        self.assertEqual(puts(NEW, stands), ((0, 2, ROWS), (1, 0, ()), (1, 3, ROWS), (0, 4, ())))

    def test_nothing_to_do(self):
        self.assertEqual(puts(NEW, ((4, ()), (3, ROWS)) + (BLANK,) * 30), ())
        self.assertEqual(puts((FIRST,), (BLANK,) * 32), ())
        head = (7, "head", (4, 6) + (0,) * 30)
        self.assertEqual(puts((head,), ((4, ROWS), (6, ROWS)) + (BLANK,) * 30), ())

    def test_forward_and_backward_behind_a_later_head(self):
        stands = ((9, number_rows(2)), (6, number_rows(7))) + (BLANK,) * 30
        self.assertEqual(puts(LATER, stands), (
            (0, 4, number_rows(1)), (0, 9, number_rows(2)), (1, 10, number_rows(9))))
        stands = ((9, number_rows(2)), (10, number_rows(9))) + (BLANK,) * 30
        self.assertEqual(puts(LATER, stands), ())

    def test_back_entries_are_deeds(self):
        roll = NEW[:4] + ((4, "back", (3, ("drop", 1, 0, None, None))), (5, "back", (2, ("put", 0, "k", (5,), None))), (6, "end", None))
        self.assertEqual(puts(roll, (BLANK,) * 32), ((0, 2, ROWS), (1, 3, ROWS), (1, 4, ()), (0, 5, ())))
        self.assertEqual(puts(roll, (BLANK, (4, ())) + (BLANK,) * 30)[-1], (0, 5, ()))

    def test_each_put_is_a_version_of_its_page(self):
        luck = chance(96)
        moved = 0
        for _ in range(80):
            work = opened(Disk())
            for _ in range(3):
                work.begin()
                for _ in range(luck.randint(1, 5)):
                    work.do(some_deed(luck, work.page, 4))
                luck.choice((work.end, work.give_up))()
            roll = work.roll()
            log = bare_of(roll)
            versions = [[(0, ())] for _ in range(32)]
            rows = [()] * 32
            for number, deed in deeds_of(roll):
                page = page_of(deed)
                rows[page] = done(deed, rows[page], lambda read: rows[read])
                versions[page].append((number, rows[page]))
            stands = tuple(luck.choice(versions[page]) for page in range(32))
            image = image_of(roll, stands)
            if not mendable(log, image):
                continue
            here = list(image)
            moves = plan(log, image)
            led = puts(roll, stands)
            self.assertEqual(len(led), len(moves))
            for (t, way), (page, number, told) in zip(moves, led):
                self.assertEqual(page, log[1][t - 1][0])
                here[page] += way
                self.assertEqual((number, told), versions[page][here[page]])
                self.assertEqual(number, number_at(roll, page, here[page]))
                moved += 1
            self.assertEqual([version[-1] for version in versions], [version[here[page]] for page, version in enumerate(versions)])
        self.assertGreater(moved, 300)

    def test_entries_can_be_read_again(self):
        for roll in (NEW, LATER):
            self.assertEqual(read_tape("".join(entry_line(entry) for entry in roll if entry[0] > 0))[0], roll)


if __name__ == "__main__":
    unittest.main()

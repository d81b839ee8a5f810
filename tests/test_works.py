import unittest

from samples import THINGS, Watched, chance, lines, refusal, some_deed
from wendleaf.disk import Disk, disk_text
from wendleaf.frames import frame_text
from wendleaf.logread import FIRST_HEAD, bare_of, roll_text
from wendleaf.logs import entry_line
from wendleaf.opening import opened
from wendleaf.writer import shelf_text

PUT = ("put", 0, "k", None, (5,))
TAKE = ("take", 1, 0, None, None)
DROP = ("drop", 0, 1, None, None)
ROWS = (("k", (5,)),)
BAD_PAGES = (-1, 32, True, False, None, "0", (0,), 10 ** 13)


def shot(work, disk):
    """All that can be seen of a work and its disk."""
    seen = [work.roll(), work.pending(), work.kept(), work.live(), work.dirty(), work.image(), disk_text(disk), disk.writes()]
    return seen + [(work.page(page), work.number(page), work.may_go(page)) for page in range(4)]


def put(page, key="k", number=1):
    return ("put", page, key, None, (number,))


def example(room=32):
    """The work of [21.1] (a)."""
    disk = Watched()
    work = opened(disk, room)
    numbers = [work.begin(), work.do(PUT), work.do(TAKE), work.do(DROP), work.end()]
    return disk, work, numbers


def bumps(many, room=32):
    """A work that is open and has done this many deeds on page 0."""
    disk = Disk()
    work = opened(disk, room)
    work.begin()
    work.do(put(0))
    for _ in range(many - 1):
        work.do(("bump", 0, "k", 0, 1))
    return disk, work


class Deeds(unittest.TestCase):
    def refused(self, work, disk, error, call, *arguments):
        before = shot(work, disk)
        self.assertEqual(refusal(call, *arguments), error)
        self.assertEqual(shot(work, disk), before)

    def test_a_new_one(self):
        disk = Disk()
        work = opened(disk)
        self.assertEqual((work.roll(), work.pending(), work.kept(), work.live(), work.dirty()), ((FIRST_HEAD,), (), (), None, ()))
        self.assertEqual(work.image(), (0,) * 32)
        self.assertEqual([work.page(page) for page in range(32)], [()] * 32)
        self.assertEqual([work.number(page) for page in range(32)], [0] * 32)
        self.assertEqual(disk.writes(), 0)

    def test_entries_and_numbers(self):
        disk, work, numbers = example()
        self.assertEqual(numbers, [1, 2, 3, 4, 5])
        entries = ((1, "begin", None), (2, "deed", PUT), (3, "deed", TAKE), (4, "deed", DROP), (5, "end", None))
        self.assertEqual(work.roll(), (FIRST_HEAD,) + entries)
        self.assertEqual(work.pending(), entries)
        self.assertEqual(work.kept(), (PUT, TAKE, DROP))
        self.assertEqual((work.page(0), work.page(1)), ((), ROWS))
        self.assertEqual((work.number(0), work.number(1), work.number(2)), (4, 3, 0))
        self.assertEqual(disk.writes(), 0)
        self.assertIs(work.live(), None)
        self.assertEqual(work.begin(), 6)
        self.assertEqual(work.live(), ())
        self.assertEqual(work.do(("bump", 1, "k", 0, 1)), 7)
        self.assertEqual(work.live(), ((7, ("bump", 1, "k", 0, 1)),))

    def test_begin_is_refused(self):
        disk = Disk()
        work = opened(disk)
        work.begin()
        self.refused(work, disk, ("Open", 1), work.begin)
        work.do(PUT)
        self.refused(work, disk, ("Open", 1), work.begin)
        work.end()
        self.assertEqual(work.begin(), 4)
        self.refused(work, disk, ("Open", 4), work.begin)

    def test_a_full_log(self):
        disk = Disk()
        work = opened(disk)
        for _ in range(849):
            work.begin()
            work.end()
        self.assertEqual(len(work.roll()), 1699)
        self.assertEqual(work.begin(), 1699)
        self.refused(work, disk, ("Open", 1699), work.begin)
        self.assertEqual(work.do(PUT), 1700)
        self.assertEqual(work.do(TAKE), 1701)
        self.assertIs(work.give_up(), None)
        self.assertEqual(len(work.roll()), 1705)
        self.refused(work, disk, ("Full", 1700), work.begin)
        work.checkpoint()
        self.assertEqual(work.begin(), 1705)

    def test_exactly_1700_entries(self):
        disk = Disk()
        work = opened(disk)
        for _ in range(848):
            work.begin()
            work.end()
        work.begin()
        work.do(PUT)
        work.end()
        self.assertEqual(len(work.roll()), 1700)
        self.refused(work, disk, ("Full", 1700), work.begin)

    def test_do_is_refused(self):
        disk = Disk()
        work = opened(disk)
        for thing, what in ((None, 0), ((), 0), ("put", 0), (("take", 1, 1, "b", "a"), 2), (("take", 1, 2, "b", "a"), 4), (list(PUT), 0),
                            (("bump", 0, "k", 4, 0), 3)):
            self.refused(work, disk, ("BadDeed", what), work.do, thing)
        self.refused(work, disk, ("NotOpen", 0), work.do, PUT)
        unfit = ("bump", 0, "k", 0, 1)
        self.refused(work, disk, ("NotOpen", 0), work.do, unfit)
        work.begin()
        self.refused(work, disk, ("Unfit", unfit), work.do, unfit)
        self.refused(work, disk, ("BadDeed", 0), work.do, None)
        work.do(PUT)
        self.refused(work, disk, ("Unfit", PUT), work.do, PUT)
        take = ("take", 0, 1, "m", None)
        self.assertEqual(work.do(take), 3)
        self.refused(work, disk, ("Unfit", DROP), work.do, DROP)
        for thing in THINGS:
            self.assertEqual(refusal(work.do, thing)[0], "BadDeed")

    def test_deeds_of_one_work_that_fill_the_log(self):
        disk, work = bumps(200)
        self.assertEqual(len(work.live()), 200)
        self.refused(work, disk, ("Full", 400), work.do, ("bump", 0, "k", 0, 1))
        self.refused(work, disk, ("Full", 400), work.do, put(1))
        self.refused(work, disk, ("Unfit", put(0)), work.do, put(0))
        self.refused(work, disk, ("BadDeed", 0), work.do, None)
        work.give_up()
        self.assertEqual(len(work.kept()), 400)
        self.assertEqual(work.page(0), ())
        work.begin()
        self.refused(work, disk, ("Full", 400), work.do, put(0))
        work.give_up()
        work.checkpoint()
        work.begin()
        self.assertEqual(work.do(put(0)), 406)

    def test_deeds_of_finished_works_that_fill_the_log(self):
        disk, work = bumps(150)
        work.end()
        work.begin()
        for _ in range(124):
            work.do(("bump", 0, "k", 0, 1))
        self.assertEqual((len(work.kept()), len(work.live())), (274, 124))
        work.do(("bump", 0, "k", 0, 1))
        self.refused(work, disk, ("Full", 400), work.do, ("bump", 0, "k", 0, 1))
        work.end()
        while len(work.kept()) < 399:
            work.begin()
            work.do(("bump", 0, "k", 0, 1))
            work.end()
        work.begin()
        self.refused(work, disk, ("Full", 400), work.do, ("bump", 0, "k", 0, 1))

    def test_a_full_log_makes_no_room(self):
        disk = Disk()
        work = opened(disk, 1)
        work.begin()
        work.do(put(0))
        for _ in range(199):
            work.do(("bump", 0, "k", 0, 1))
        self.refused(work, disk, ("Full", 400), work.do, put(1))
        self.refused(work, disk, ("Unfit", ("bump", 1, "k", 0, 1)), work.do, ("bump", 1, "k", 0, 1))
        self.assertEqual(disk.writes(), 0)

    def test_end_and_give_up_are_refused(self):
        disk, work, _ = example()
        self.refused(work, disk, ("NotOpen", 0), work.end)
        self.refused(work, disk, ("NotOpen", 0), work.give_up)
        work.begin()
        self.assertEqual(work.end(), 7)
        self.refused(work, disk, ("NotOpen", 0), work.end)

    def test_giving_up(self):
        disk, work, _ = example()
        work.begin()
        work.do(put(1, "z", 9))
        work.do(("take", 2, 1, "z", None))
        work.do(("bump", 2, "z", 0, 1))
        self.assertIs(work.give_up(), None)
        self.assertEqual(work.roll()[10:], (
            (10, "back", (9, ("bump", 2, "z", 0, -1))), (11, "back", (8, ("drop", 2, 1, "z", None))),
            (12, "back", (7, ("put", 1, "z", (9,), None))), (13, "end", None)))
        self.assertEqual([work.page(page) for page in range(3)], [(), ROWS, ()])
        self.assertEqual([work.number(page) for page in range(3)], [4, 12, 11])
        self.assertIs(work.live(), None)
        self.assertEqual(work.kept()[-1], ("put", 1, "z", (9,), None))
        self.assertEqual(disk.writes(), 0)
        work.begin()
        work.give_up()
        self.assertEqual(work.roll()[-2:], ((14, "begin", None), (15, "end", None)))

    def test_bad_pages(self):
        disk, work, _ = example()
        for page in BAD_PAGES:
            for call in (work.page, work.number, work.may_go, work.write, work.write_knot):
                self.refused(work, disk, ("BadPage", page), call, page)


class Dirty(unittest.TestCase):
    def test_the_eldest_first(self):
        disk = Disk()
        work = opened(disk)
        work.begin()
        for page in (5, 3, 5, 9, 3, 0):
            work.do(put(page, f"k{len(work.roll())}"))
        self.assertEqual(work.dirty(), (5, 3, 9, 0))
        work.write(3)
        self.assertEqual(work.dirty(), (5, 9, 0))
        work.do(put(3, "x"))
        self.assertEqual(work.dirty(), (5, 9, 0, 3))
        work.do(put(9, "x"))
        self.assertEqual(work.dirty(), (5, 9, 0, 3))

    def test_giving_up_makes_pages_dirty(self):
        disk = Disk()
        work = opened(disk, 2)
        work.begin()
        for page in (4, 6, 2, 7):
            work.do(put(page))
        self.assertEqual(work.dirty(), (2, 7))
        work.give_up()
        self.assertEqual(work.dirty(), (2, 7, 6, 4))
        self.assertEqual(disk.frame_ids(), (4, 6))
        self.assertEqual(work.image()[:8], (0, 0, 0, 0, 1, 0, 1, 0))

    def test_more_dirty_pages_than_room(self):
        disk = Watched()
        work = opened(disk, 2)
        work.begin()
        for page in (4, 6, 2, 7):
            work.do(put(page))
        work.give_up()
        disk.news()
        work.begin()
        work.do(put(6))
        self.assertEqual(disk.news(), [])
        work.do(put(8))
        told = disk.news()
        self.assertEqual([each[:2] for each in told[2:]], [("frame", 2), ("frame", 7), ("frame", 6)])
        self.assertEqual(work.dirty(), (4, 8))


class Writing(unittest.TestCase):
    def test_example_a(self):
        disk, work, _ = example()
        self.assertEqual(bare_of(work.roll())[1], ((0, ()), (1, (0,)), (0, (1,))))
        self.assertEqual((work.may_go(0), work.may_go(1), work.may_go(2)), (False, True, True))
        before = shot(work, disk)
        self.assertEqual(refusal(work.write, 0), ("NotYet", 0))
        self.assertEqual(shot(work, disk), before)
        self.assertEqual((disk.writes(), disk.tape()), (0, ""))
        self.assertIs(work.write(1), None)
        self.assertEqual(disk.news(), [("add", roll_text(work.roll())), ("sync",), ("frame", 1, frame_text(1, 3, ROWS))])
        self.assertEqual((disk.writes(), work.may_go(0), work.pending(), work.dirty()), (3, True, (), (0,)))
        self.assertEqual(work.image()[:3], (0, 1, 0))
        left = disk.fell(0)
        again = opened(left)
        self.assertEqual((left.writes(), again.page(0), again.page(1)), (4, (), ROWS))
        self.assertEqual((left.frame(0), left.frame(1)), (frame_text(0, 4, ()), frame_text(1, 3, ROWS)))
        self.assertEqual((again.dirty(), again.pending(), again.image()[:3]), ((), (), (2, 1, 0)))

    def test_example_b(self):
        disk, work, _ = example()
        self.assertIs(work.write_knot(0), None)
        self.assertEqual(disk.news(), [
            ("add", roll_text(work.roll())), ("sync",), ("shelf", shelf_text(((0, 4, ()), (1, 3, ROWS)))), ("frame", 0, frame_text(0, 4, ())),
            ("frame", 1, frame_text(1, 3, ROWS)), ("shelf", "")])
        self.assertEqual(work.dirty(), ())
        self.assertEqual(work.cut_head(), 5)
        head = (5, "head", (4, 3) + (0,) * 30)
        self.assertEqual(disk.news(), [("cut", entry_line(head))])
        self.assertEqual(work.roll(), (head,))
        self.assertEqual(disk.writes(), 7)

    def test_example_c(self):
        disk = Watched()
        work = opened(disk, 1)
        work.begin()
        work.do(PUT)
        self.assertEqual(disk.news(), [])
        work.do(TAKE)
        self.assertEqual(disk.news(), [("add", lines((1, "begin", None), (2, "deed", PUT))), ("sync",), ("frame", 0, frame_text(0, 2, ROWS))])
        work.do(DROP)
        self.assertEqual(disk.news(), [("add", lines((3, "deed", TAKE))), ("sync",), ("frame", 1, frame_text(1, 3, ROWS))])
        self.assertEqual(work.dirty(), (0,))

    def test_the_log(self):
        disk = Watched()
        work = opened(disk)
        work.flush_log()
        work.sync_log()
        self.assertEqual(disk.news(), [])
        work.begin()
        work.do(PUT)
        self.assertEqual(work.pending(), ((1, "begin", None), (2, "deed", PUT)))
        self.assertIs(work.flush_log(), None)
        self.assertEqual(disk.news(), [("add", lines((1, "begin", None), (2, "deed", PUT)))])
        self.assertEqual((work.pending(), disk.safe()), ((), 0))
        work.flush_log()
        self.assertEqual(disk.news(), [])
        self.assertIs(work.sync_log(), None)
        self.assertEqual(disk.news(), [("sync",)])
        work.sync_log()
        self.assertEqual(disk.news(), [])
        work.end()
        work.sync_log()
        self.assertEqual(disk.news(), [("add", lines((3, "end", None))), ("sync",)])

    def test_clean_pages_are_not_written(self):
        disk, work, _ = example()
        for call in (work.write, work.write_knot):
            self.assertIs(call(7), None)
            self.assertEqual(disk.news(), [])
        self.assertEqual(len(work.pending()), 5)
        work.write(1)
        disk.news()
        work.write(1)
        self.assertEqual(disk.news(), [])

    def test_a_knot_with_one_dirty_page(self):
        disk, work, _ = example()
        work.write(1)
        disk.news()
        work.write_knot(1)
        self.assertEqual(disk.news(), [("frame", 0, frame_text(0, 4, ()))])
        work.write_knot(0)
        self.assertEqual(disk.news(), [])

    def test_a_page_in_no_ring_is_written_without_the_shelf(self):
        disk = Watched()
        work = opened(disk)
        work.begin()
        work.do(put(3))
        work.do(put(4))
        work.write_knot(4)
        self.assertEqual([each[0] for each in disk.news()], ["add", "sync", "frame"])
        self.assertEqual(work.dirty(), (3,))

    def test_all_pages(self):
        disk, work, _ = example()
        work.begin()
        work.do(put(9))
        work.do(put(3))
        self.assertIs(work.write_all(), None)
        told = disk.news()
        self.assertEqual([each[:2] for each in told[2:]], [
            ("shelf", shelf_text(((0, 4, ()), (1, 3, ROWS)))), ("frame", 0), ("frame", 1), ("shelf", ""), ("frame", 3), ("frame", 9)])
        self.assertEqual([each[0] for each in told[:2]], ["add", "sync"])
        self.assertEqual((work.dirty(), work.pending()), ((), ()))
        work.write_all()
        self.assertEqual(disk.news(), [])

    def test_a_checkpoint(self):
        disk, work, _ = example()
        work.begin()
        self.assertIs(work.checkpoint(), None)
        told = disk.news()
        head = (5, "head", (4, 3) + (0,) * 30)
        self.assertEqual([each[0] for each in told], ["add", "sync", "shelf", "frame", "frame", "shelf", "cut"])
        self.assertEqual(told[-1], ("cut", lines(head, (6, "begin", None))))
        self.assertEqual(work.roll(), (head, (6, "begin", None)))
        self.assertEqual(work.live(), ())
        work.do(put(0, "a"))
        work.checkpoint()
        self.assertEqual([each[0] for each in disk.news()], ["add", "sync", "frame"])
        self.assertEqual((work.roll()[0], len(work.roll())), (head, 3))

    def test_the_frame_of_a_page_that_was_written_before(self):
        disk, work, _ = example()
        work.write_all()
        work.begin()
        work.do(("bump", 1, "k", 0, 1))
        self.assertEqual(work.image()[:2], (2, 1))
        work.write(1)
        self.assertEqual(disk.frame(1), frame_text(1, 7, (("k", (6,)),)))
        self.assertEqual(work.image()[:2], (2, 2))


class Room(unittest.TestCase):
    def ring_of_two(self, room):
        """Pages 0 and 1 have read one another so that neither of them may go by itself."""
        disk = Watched()
        work = opened(disk, 32)
        work.begin()
        for page in (0, 1):
            work.do(put(page, "k"))
            work.do(put(page, f"x{page}"))
        work.end()
        work.checkpoint()
        again = opened(disk, room)
        disk.news()
        again.begin()
        for page in (1, 0, 1, 0):
            again.do(("add", page, "k", 0, 1 - page, "k", 0, 1))
        return disk, again

    def test_the_first_that_may_go(self):
        disk = Watched()
        work = opened(disk, 2)
        work.begin()
        for deed in (PUT, TAKE, DROP):
            work.do(deed)
        disk.news()
        self.assertEqual((work.dirty(), work.may_go(0), work.may_go(1)), ((0, 1), False, True))
        work.do(put(2))
        self.assertEqual([each[:2] for each in disk.news()[2:]], [("frame", 1)])
        self.assertEqual(work.dirty(), (0, 2))
        work.do(put(3))
        self.assertEqual([each[:2] for each in disk.news()[2:]], [("frame", 0)])
        self.assertEqual(work.dirty(), (2, 3))

    def test_the_eldest_ones_knot_if_none_may_go(self):
        disk, work = self.ring_of_two(2)
        self.assertEqual((work.dirty(), work.may_go(0), work.may_go(1)), ((1, 0), False, False))
        self.assertEqual(disk.news(), [])
        work.do(put(2))
        self.assertEqual([each[0] for each in disk.news()], ["add", "sync", "shelf", "frame", "frame", "shelf"])
        self.assertEqual(work.dirty(), (2,))

    def test_the_eldest_ones_knot_beside_another_one(self):
        disk = Watched()
        work = opened(disk)
        work.begin()
        for page in range(4):
            work.do(put(page))
        work.end()
        work.checkpoint()
        again = opened(disk, 4)
        again.begin()
        for page, read in ((3, 1), (0, 2), (1, 3), (2, 0), (3, 1), (0, 2), (1, 3), (2, 0)):
            again.do(("add", page, "k", 0, read, "k", 0, 1))
        self.assertEqual((again.dirty(), [again.may_go(page) for page in range(4)]), ((3, 0, 1, 2), [False] * 4))
        disk.news()
        again.do(put(9))
        self.assertEqual([each[1] for each in disk.news() if each[0] == "frame"], [1, 3])
        self.assertEqual(again.dirty(), (0, 2, 9))

    def test_a_younger_page_that_may_go_ahead_of_the_eldest_ones_knot(self):
        disk, work = self.ring_of_two(3)
        work.do(put(5))
        work.do(put(6))
        self.assertEqual([each[:2] for each in disk.news()[2:]], [("frame", 5)])
        self.assertEqual(work.dirty(), (1, 0, 6))

    def test_dirty_pages_need_no_room(self):
        disk, work = self.ring_of_two(2)
        work.do(("add", 0, "k", 0, 1, "k", 0, 1))
        work.do(("add", 1, "x1", 0, 0, "k", 0, 1))
        self.assertEqual(disk.news(), [])

    def test_all_rooms_lead_to_the_same(self):
        for seed in range(25):
            told = []
            for room in (1, 2, 3, 32):
                luck = chance(seed)
                work = opened(Disk(), room)
                results = []
                for _ in range(60):
                    results.append(self.step(luck, work))
                    self.assertLessEqual(len(work.dirty()), 6)
                pages = [(work.page(page), work.number(page)) for page in range(32)]
                told.append((results, work.roll(), pages, work.live(), work.kept()))
            self.assertEqual(told[1:], told[:1] * 3)

    def step(self, luck, work):
        """What one call returns or raises."""
        what = luck.choice(("begin", "do", "do", "do", "do", "do", "end", "give_up", "checkpoint", "unfit"))
        calls = {"begin": work.begin, "end": work.end, "give_up": work.give_up, "checkpoint": work.checkpoint}
        try:
            if what == "do":
                return work.do(some_deed(luck, work.page, 6))
            if what == "unfit":
                return work.do(("bump", 0, "nokey", 0, 1))
            return calls[what]()
        except ValueError as error:
            return error.__class__.__name__, error.what

    def test_the_room_is_kept(self):
        for room in (1, 2, 3):
            luck = chance(room)
            work = opened(Disk(), room)
            for _ in range(8):
                work.begin()
                for _ in range(5):
                    work.do(some_deed(luck, work.page, 8))
                    self.assertLessEqual(len(work.dirty()), room)
                work.end()


class Opened(unittest.TestCase):
    """Works of disks that were not new."""

    def opened(self, *entries):
        disk = Watched()
        disk.add_tape(lines(*entries))
        return disk, opened(disk)

    def test_an_open_work_is_given_up(self):
        disk, work = self.opened((1, "begin", None), (2, "deed", PUT))
        self.assertEqual([each[:2] for each in disk.news()[2:]], [("frame", 0)])
        self.assertEqual(work.pending(), ((3, "back", (2, ("put", 0, "k", (5,), None))), (4, "end", None)))
        self.assertEqual((work.dirty(), work.image()[:2], work.page(0), work.number(0)), ((0,), (1, 0), (), 3))
        self.assertEqual(work.cut_head(), 0)
        work.write(0)
        self.assertEqual(disk.frame(0), frame_text(0, 3, ()))
        self.assertEqual(work.cut_head(), 4)

    def test_example_d(self):
        disk, work = self.opened((1, "begin", None), (2, "deed", PUT), (3, "deed", TAKE), (4, "back", (3, ("drop",) + TAKE[1:])))
        self.assertEqual(work.pending(), ((5, "back", (2, ("put", 0, "k", (5,), None))), (6, "end", None)))
        self.assertEqual((work.dirty(), work.image()[:2]), ((0,), (1, 2)))
        self.assertIs(work.live(), None)

    def test_a_finished_work(self):
        disk, work = self.opened((1, "begin", None), (2, "deed", PUT), (3, "end", None))
        self.assertEqual((work.dirty(), work.pending(), work.image()[:2], work.page(0)), ((), (), (1, 0), ROWS))
        self.assertEqual(work.cut_head(), 3)
        disk.news()
        again = opened(disk.fell(0))
        self.assertEqual((again.roll(), again.page(0), again.image()), (((3, "head", (2,) + (0,) * 31),), ROWS, (0,) * 32))
        self.assertEqual(again.begin(), 4)


class Cutting(unittest.TestCase):
    def test_no_end_entry(self):
        disk = Watched()
        work = opened(disk)
        self.assertEqual(work.cut_head(), 0)
        work.begin()
        work.do(PUT)
        work.write_all()
        disk.news()
        self.assertEqual(work.cut_head(), 0)
        self.assertEqual(disk.news(), [])
        self.assertEqual(len(work.roll()), 3)

    def test_pages_that_are_not_written(self):
        disk, work, _ = example()
        self.assertEqual(work.cut_head(), 0)
        self.assertEqual(disk.news(), [])
        work.write(1)
        self.assertEqual(work.cut_head(), 0)
        work.begin()
        work.do(put(2))
        work.end()
        work.write(2)
        disk.news()
        self.assertEqual(work.cut_head(), 0)
        work.write(0)
        self.assertEqual(work.cut_head(), 8)
        self.assertEqual(disk.news()[-1], ("cut", lines((8, "head", (4, 3, 7) + (0,) * 29))))

    def test_up_to_the_least_deed_that_is_not_written(self):
        disk = Watched()
        work = opened(disk)
        for page in (0, 1, 0, 2):
            work.begin()
            work.do(put(page, f"k{len(work.roll())}"))
            work.end()
            if page != 0 or len(work.roll()) < 6:
                work.write(page)
        self.assertEqual(work.dirty(), (0,))
        disk.news()
        self.assertEqual(work.cut_head(), 6)
        head = (6, "head", (2, 5) + (0,) * 30)
        self.assertEqual(work.roll()[0], head)
        self.assertEqual(disk.news(), [("cut", roll_text(work.roll()))])
        self.assertEqual([entry[0] for entry in work.roll()], list(range(6, 13)))
        self.assertEqual(work.cut_head(), 6)
        self.assertEqual(disk.news(), [])
        self.assertEqual([work.number(page) for page in range(3)], [8, 5, 11])
        self.assertEqual(work.image()[:3], (0, 0, 1))
        self.assertEqual(work.dirty(), (0,))

    def test_an_open_work_and_pending_entries(self):
        disk, work, _ = example()
        work.write_all()
        work.begin()
        work.do(put(2))
        disk.news()
        self.assertEqual(work.cut_head(), 5)
        head = (5, "head", (4, 3) + (0,) * 30)
        rest = ((6, "begin", None), (7, "deed", put(2)))
        self.assertEqual(disk.news(), [("cut", lines(head, *rest))])
        self.assertEqual((work.roll(), work.pending(), work.live()), ((head,) + rest, (), ((7, put(2)),)))
        self.assertEqual(disk.safe(), len(disk.tape()))
        self.assertEqual((work.number(0), work.number(1), work.number(2)), (4, 3, 7))
        self.assertEqual(work.dirty(), (2,))
        self.assertEqual(work.do(put(3)), 8)
        work.give_up()
        self.assertEqual(work.roll()[-1], (11, "end", None))

    def test_pages_that_no_deed_wrote_keep_their_head_numbers(self):
        disk, work, _ = example()
        work.checkpoint()
        for page in (5, 1):
            work.begin()
            work.do(put(page, "z"))
            work.end()
            work.checkpoint()
        self.assertEqual(work.roll(), ((11, "head", (4, 10, 0, 0, 0, 7) + (0,) * 26),))
        self.assertEqual((work.kept(), work.image()), ((), (0,) * 32))
        self.assertEqual([work.number(page) for page in (0, 1, 2, 5)], [4, 10, 0, 7])

    def test_works_without_deeds(self):
        disk = Watched()
        work = opened(disk)
        work.begin()
        work.end()
        self.assertEqual(work.cut_head(), 2)
        self.assertEqual(disk.news(), [("cut", lines((2, "head", (0,) * 32)))])
        work.begin()
        self.assertEqual(work.cut_head(), 2)
        self.assertEqual(disk.news(), [])


if __name__ == "__main__":
    unittest.main()

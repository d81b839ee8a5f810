import unittest

from samples import GREATEST, THINGS, chance, disk_of, refusal, some_deed
from wendleaf.bare import version_at
from wendleaf.deedrun import done
from wendleaf.disk import Disk, disk_text
from wendleaf.frames import frame_text
from wendleaf.known import known
from wendleaf.logread import FIRST_HEAD, bare_of, deeds_of
from wendleaf.mending import image_of, stands_of
from wendleaf.opening import opened
from wendleaf.papers import worlds_of, wounds
from wendleaf.past import past, past_works, reach
from wendleaf.plans import mendable
from wendleaf.worlds import worlds, worlds_right
from wendleaf.writer import shelf_text

PUT = ("put", 0, "k", None, (5,))
TAKE = ("take", 1, 0, None, None)
DROP = ("drop", 0, 1, None, None)
ROWS = (("k", (5,)),)
NEW = (FIRST_HEAD, (1, "begin", None), (2, "deed", PUT), (3, "deed", TAKE), (4, "deed", DROP), (5, "end", None))
LATER = ((7, "head", (4, 6) + (0,) * 30), (8, "begin", None), (9, "deed", ("bump", 0, "k", 0, 1)),
         (10, "deed", ("add", 1, "k", 0, 0, "k", 0, 1)), (11, "end", None))
NO_PAGES = (-1, 32, True, False, None, "0", (0,), GREATEST)


def k(number):
    return (("k", (number,)),)


def moments_of(roll, first):
    """The rows of all pages at each moment, by doing the deeds in order from the rows at the head."""
    rows = list(first)
    found = [tuple(rows)]
    for _, deed in deeds_of(roll):
        rows[deed[1]] = done(deed, rows[deed[1]], lambda page: rows[page])
        found.append(tuple(rows))
    return found


def some_store(luck, works):
    """A disk behind some works, its roll, and the rows of all pages at each moment."""
    disk = Disk()
    work = opened(disk, luck.choice((1, 2, 32)))
    first = ((),) * 32
    head = luck.randint(0, 2)
    for count in range(head + works):
        if count == head:
            work.checkpoint()
            first = tuple(work.page(page) for page in range(32))
        work.begin()
        for _ in range(luck.randint(1, 4)):
            work.do(some_deed(luck, work.page, 4))
            if luck.random() < 0.3:
                work.write_knot(luck.randrange(4))
        if count + 1 < head + works or luck.random() < 0.6:
            luck.choice((work.end, work.end, work.give_up))()
    work.sync_log()
    return disk, work, moments_of(work.roll(), first)


class Unchanged(unittest.TestCase):
    """Looks at disks, and sees that nothing is written."""

    def look(self, disk, call, *arguments):
        before = (disk_text(disk), disk.writes())
        try:
            return call(disk, *arguments)
        finally:
            self.assertEqual((disk_text(disk), disk.writes()), before)

    def refused(self, disk, error, call, *arguments):
        self.assertEqual(self.look(disk, refusal_of, call, *arguments), error)


def refusal_of(disk, call, *arguments):
    return refusal(call, disk, *arguments)


class Past(Unchanged):
    def test_example_a(self):
        for frames in ((), ((1, (3, ROWS)),), ((0, (4, ())), (1, (3, ROWS))), ((0, (4, ())),), ((0, (2, ROWS)),), ((0, "x"), (1, "y"))):
            disk = disk_of(NEW, frames)
            self.assertEqual([self.look(disk, past, 0, moment) for moment in range(4)], [(), ROWS, ROWS, ()])
            self.assertEqual([self.look(disk, past, 1, moment) for moment in range(4)], [(), (), ROWS, ROWS])
            self.assertEqual([self.look(disk, past, 31, moment) for moment in range(4)], [()] * 4)
            self.assertEqual([self.look(disk, reach, page) for page in range(32)], [(0, 3)] * 32)

    def test_a_new_disk(self):
        self.assertEqual((past(Disk(), 0, 0), reach(Disk(), 31), past_works(opened(Disk()))), ((), (0, 0), ()))
        self.refused(Disk(), ("BadNumber", 1), past, 0, 1)

    def test_each_moment_of_stores(self):
        luck = chance(71)
        for _ in range(60):
            disk, work, moments = some_store(luck, luck.randint(1, 4))
            if luck.random() < 0.3:
                disk.add_tape(f"{work.roll()[-1][0] + 1} be")
            for moment, rows in enumerate(moments):
                self.assertEqual([self.look(disk, past, page, moment) for page in range(5)], list(rows[:5]))
            self.assertEqual([self.look(disk, reach, page) for page in range(5)], [(0, len(moments) - 1)] * 5)
            self.refused(disk, ("BadNumber", len(moments)), past, 0, len(moments))

    def test_each_moment_of_wounded_disks(self):
        luck = chance(72)
        known_ones = lost = unknown = 0
        for _ in range(80):
            disk, work, moments = some_store(luck, luck.randint(2, 4))
            for page in luck.sample(range(4), luck.randint(1, 2)):
                if disk.frame(page) is not None:
                    disk.spoil_frame(page, 0, "q")
            roll, _, stands = stands_of(disk)
            log = bare_of(roll)
            lots = known(log, image_of(roll, stands))
            for page in range(5):
                expected = []
                for moment, rows in enumerate(moments):
                    version = version_at(log, page, moment)
                    if lots[page] is not None and lots[page][0] <= version <= lots[page][1]:
                        self.assertEqual(self.look(disk, past, page, moment), rows[page])
                        self.refused(disk, ("NotLost", page), worlds_of, page, moment)
                        expected.append(moment)
                        known_ones += 1
                    else:
                        self.refused(disk, ("NotKnown", page), past, page, moment)
                        paper = self.look(disk, worlds_of, page, moment)
                        self.assertEqual(paper, worlds(log, image_of(roll, stands)))
                        self.assertIs(worlds_right(log, image_of(roll, stands), paper, page, version), True)
                        unknown += 1
                if lots[page] is None:
                    self.assertIs(self.look(disk, reach, page), None)
                    self.assertEqual(expected, [])
                    lost += 1
                else:
                    self.assertEqual(expected, list(range(expected[0], expected[-1] + 1)))
                    self.assertEqual(self.look(disk, reach, page), (expected[0], expected[-1]))
        self.assertGreater(min(known_ones, lost, unknown), 40)

    def test_frames_ahead_and_behind(self):
        disk = disk_of(LATER, ((0, (9, k(2))), (1, (6, k(7)))))
        self.assertEqual([past(disk, 0, moment) for moment in range(3)], [k(1), k(2), k(2)])
        self.assertEqual([past(disk, 1, moment) for moment in range(3)], [k(7), k(7), k(9)])
        disk = disk_of(LATER, ((0, "x"), (1, (10, k(9)))))
        self.refused(disk, ("NotKnown", 0), past, 0, 2)
        self.refused(disk, ("NotKnown", 1), past, 1, 1)
        self.assertEqual((past(disk, 1, 2), reach(disk, 1), reach(disk, 0), reach(disk, 2)), (k(9), (2, 2), None, (0, 2)))
        disk = disk_of(LATER, ((0, (4, k(1))),))
        self.assertEqual([past(disk, 0, moment) for moment in range(3)], [k(1), k(2), k(2)])
        self.refused(disk, ("NotKnown", 1), past, 1, 0)

    def test_the_shelf(self):
        disk = disk_of(LATER, ((0, "x"), (1, (12, ()))), shelf_text(((0, 4, k(1)), (1, 6, k(7)))))
        self.assertEqual([past(disk, 1, moment) for moment in range(3)], [k(7), k(7), k(9)])
        self.assertEqual(disk.frame(0), "x")

    def test_a_torn_tape_and_an_open_work(self):
        disk = disk_of(NEW[:4], ((0, (2, ROWS)),), rest="4 de")
        self.assertEqual([past(disk, 1, moment) for moment in range(3)], [(), (), ROWS])
        self.refused(disk, ("BadNumber", 3), past, 1, 3)
        self.assertEqual(reach(disk, 1), (0, 2))

    def test_refusals(self):
        good, bad, wounded = disk_of(NEW), disk_of(LATER, rest="x\n"), disk_of(LATER)
        for page in NO_PAGES:
            for disk in (good, bad, wounded):
                self.refused(disk, ("BadPage", page), past, page, 99)
                self.refused(disk, ("BadPage", page), reach, page)
                self.refused(disk, ("BadPage", page), worlds_of, page, 99)
        for moment in (-1, 99, True, None, 0):
            self.refused(bad, ("BadTape", 5), past, 0, moment)
            self.refused(bad, ("BadTape", 5), worlds_of, 0, moment)
        self.refused(bad, ("BadTape", 5), reach, 0)
        self.refused(bad, ("BadTape", 5), wounds)
        behind = disk_of(NEW, ((3, (6, ())),))
        for call, arguments in ((past, (0, 99)), (worlds_of, (0, 99)), (reach, (0,)), (wounds, ())):
            self.refused(behind, ("BadTape", 5), call, *arguments)
        for moment in (-1, 4, True, False, None, "1", GREATEST, (1,)):
            self.refused(good, ("BadNumber", moment), past, 0, moment)
            self.refused(good, ("BadNumber", moment), worlds_of, 0, moment)
        for moment in (-1, 3, None, False):
            self.refused(wounded, ("BadNumber", moment), past, 0, moment)
            self.refused(wounded, ("BadNumber", moment), worlds_of, 0, moment)
        self.refused(wounded, ("NotKnown", 0), past, 0, 0)
        for thing in THINGS:
            if not (isinstance(thing, int) and not isinstance(thing, bool) and 0 <= thing < 32):
                self.refused(good, ("BadPage", thing), past, thing, 0)


class PastWorks(unittest.TestCase):
    def test_works(self):
        work = opened(Disk())
        self.assertEqual(past_works(work), ())
        work.begin()
        self.assertEqual(past_works(work), ())
        work.do(PUT)
        work.do(TAKE)
        work.end()
        self.assertEqual(past_works(work), ((4, 2),))
        work.begin()
        work.end()
        work.begin()
        work.do(DROP)
        work.do(("put", 3, "x", None, (1,)))
        work.give_up()
        self.assertEqual(past_works(work), ((4, 2), (6, 2), (12, 6)))
        work.begin()
        work.do(DROP)
        self.assertEqual(past_works(work), ((4, 2), (6, 2), (12, 6)))

    def test_behind_a_cut(self):
        work = opened(Disk())
        for page in (0, 1):
            work.begin()
            work.do(("put", page, "k", None, (1,)))
            work.end()
            work.write(0)
        self.assertEqual(past_works(work), ((3, 1), (6, 2)))
        self.assertEqual(work.cut_head(), 3)
        self.assertEqual(past_works(work), ((6, 1),))
        work.checkpoint()
        self.assertEqual(past_works(work), ())

    def test_behind_opening(self):
        work = opened(disk_of(NEW[:4]))
        self.assertEqual(past_works(work), ((6, 4),))
        disk = disk_of(NEW)
        work = opened(disk)
        self.assertEqual(past_works(work), ((5, 3),))
        self.assertEqual([past(disk, page, 3) for page in range(32)], [work.page(page) for page in range(32)])

    def test_each_work_of_stores(self):
        luck = chance(73)
        for _ in range(30):
            disk, work, moments = some_store(luck, luck.randint(1, 4))
            found = []
            for index, entry in enumerate(work.roll()):
                if entry[1] == "end":
                    found.append((entry[0], sum(1 for other in work.roll()[:index] if other[1] in ("deed", "back"))))
            self.assertEqual(past_works(work), tuple(found))
            for _, moment in found:
                self.assertEqual([past(disk, page, moment) for page in range(4)], list(moments[moment][:4]))


class Papers(Unchanged):
    def test_mendable_disks(self):
        for disk in (Disk(), disk_of(NEW), disk_of(NEW, ((0, (4, ())),)), disk_of(LATER, ((0, (4, k(1))), (1, (6, k(7)))), rest="12 ")):
            self.assertIs(self.look(disk, wounds), None)
            self.refused(disk, ("NotLost", 0), worlds_of, 0, 0)

    def test_example_f(self):
        roll = ((4, "head", (2, 3) + (0,) * 30), (5, "begin", None), (6, "deed", ("add", 1, "a", 0, 0, "a", 0, 1)))
        disk = disk_of(roll, ((0, "x"), (1, (6, (("a", (3,)),)))))
        self.assertEqual(self.look(disk, wounds), ((0, 1), (0,)))
        self.assertEqual(self.look(disk, worlds_of, 1, 0), (0,))
        self.assertEqual(self.look(disk, worlds_of, 0, 1), (0,))
        self.refused(disk, ("NotLost", 1), worlds_of, 1, 1)
        self.assertEqual(past(disk, 1, 1), (("a", (3,)),))

    def test_lost_pages(self):
        disk = disk_of(LATER)
        self.assertEqual(wounds(disk), ((0, 1), (None, None)))
        self.assertEqual(worlds_of(disk, 0, 0), (None, None))
        self.refused(disk, ("NotLost", 2), worlds_of, 2, 0)
        disk = disk_of(LATER, ((1, (6, k(7))),))
        self.assertEqual(wounds(disk), ((0, 1), (None, 0)))

    def test_stores(self):
        luck = chance(74)
        seen = {True: 0, False: 0}
        for _ in range(60):
            disk, _, _ = some_store(luck, luck.randint(2, 4))
            for page in luck.sample(range(4), luck.randint(0, 2)):
                if disk.frame(page) is not None:
                    disk.spoil_frame(page, len(disk.frame(page)) - 1, "q")
            roll, _, stands = stands_of(disk)
            log, image = bare_of(roll), image_of(roll, stands)
            told = self.look(disk, wounds)
            seen[told is None] += 1
            self.assertIs(told is None, mendable(log, image))
            if told is not None:
                self.assertEqual(refusal(opened, disk), ("Wounded", told[0]))
                self.assertEqual(told[1], worlds(log, image))
        self.assertGreater(min(seen.values()), 10)

    def test_frames_of_the_disk_stand_behind_those_of_the_shelf(self):
        disk = disk_of(LATER, ((0, (4, k(1))), (1, (6, k(7)))), shelf_text(((0, 3, ()),)))
        self.assertEqual(wounds(disk), ((0, 1), (None, 0)))
        self.assertEqual(disk.frame(0), frame_text(0, 4, k(1)))


if __name__ == "__main__":
    unittest.main()

import unittest

from samples import GREATEST, THINGS, Watched, chance, disk_of, lines, pages_of, refusal, some_deed, spoilt, watched
from wendleaf.disk import Disk, disk_text, read_disk
from wendleaf.errors import BadTape, Fallen, Wounded
from wendleaf.frames import frame_text
from wendleaf.knots import may_write
from wendleaf.logread import FIRST_HEAD, bare_of, deeds_of, read_tape, roll_text
from wendleaf.mending import image_of, puts, stands_of, wounded_by
from wendleaf.opening import opened
from wendleaf.plans import mendable, plan
from wendleaf.works import Work
from wendleaf.writer import read_shelf, shelf_text

PUT = ("put", 0, "k", None, (5,))
TAKE = ("take", 1, 0, None, None)
DROP = ("drop", 0, 1, None, None)
ROWS = (("k", (5,)),)
NEW = (FIRST_HEAD, (1, "begin", None), (2, "deed", PUT), (3, "deed", TAKE), (4, "deed", DROP), (5, "end", None))
TO_END = [("frame", 0, frame_text(0, 2, ROWS)), ("frame", 1, frame_text(1, 3, ROWS)), ("frame", 0, frame_text(0, 4, ()))]
# A head that knows of pages 0 and 1; behind it page 0 is bumped and page 1 reads it.
BUMP = ("bump", 0, "k", 0, 1)
ADD = ("add", 1, "k", 0, 0, "k", 0, 1)
LATER = ((7, "head", (4, 6) + (0,) * 30), (8, "begin", None), (9, "deed", BUMP), (10, "deed", ADD), (11, "end", None))


def k(number):
    return (("k", (number,)),)


def example(disk):
    """The work of [21.1] (a)."""
    work = opened(disk)
    numbers = [work.begin(), work.do(PUT), work.do(TAKE), work.do(DROP), work.end()]
    return work, numbers


class Refusals(unittest.TestCase):
    def refused(self, disk, error, *arguments):
        before = (disk_text(disk), disk.writes())
        self.assertEqual(refusal(opened, disk, *arguments), error)
        self.assertEqual((disk_text(disk), disk.writes()), before)

    def test_rooms(self):
        for room in (0, 33, -1, True, False, None, GREATEST, "3", (3,), ()):
            self.refused(Disk(), ("BadRoom", room), room)
            self.refused(disk_of(NEW, rest="x"), ("BadRoom", room), room)
        for room in range(1, 33):
            self.assertIsInstance(opened(Disk(), room), Work)
        self.assertIsInstance(opened(room=5, disk=Disk()), Work)
        self.assertIsInstance(opened(disk=Disk()), Work)
        for room in THINGS:
            if not (isinstance(room, int) and not isinstance(room, bool) and 1 <= room <= 32):
                self.refused(Disk(), ("BadRoom", room), room)

    def test_tapes(self):
        for rest, index in (("x\n", 5), ("6 begin 002726\n", 5), ("5 end 001360\n", 5), ("\n", 5)):
            self.refused(disk_of(NEW, rest=rest), ("BadTape", index))
            self.refused(disk_of(NEW, rest=rest + "6 beg"), ("BadTape", index))
        self.refused(disk_of(NEW, ((7, (6, ())),)), ("BadTape", 5))
        self.refused(disk_of(NEW, ((7, (6, ())),), rest="6 begin 002"), ("BadTape", 5))
        self.refused(disk_of(NEW, (), shelf_text(((7, 6, ()),))), ("BadTape", 5))

    def test_a_frame_under_one_of_the_shelf_does_not_count(self):
        disk = disk_of(NEW, ((7, (6, ())),), shelf_text(((7, 0, ()),)))
        self.assertEqual(opened(disk).page(7), ())
        self.assertEqual(disk.frame(7), frame_text(7, 0, ()))

    def test_wounds(self):
        for frames, pages in (((), (0, 1)), (((0, (4, k(1))),), (1,)), (((1, (10, k(9))),), (0,)), (((1, (6, k(7))),), (0, 1))):
            for rest in ("", "12 be"):
                self.refused(disk_of(LATER, frames, rest=rest), ("Wounded", pages))

    def test_the_order(self):
        wounded = disk_of(LATER, rest="x\ny")
        self.refused(wounded, ("BadRoom", 0), 0)
        self.refused(wounded, ("BadTape", 5), 1)
        self.refused(disk_of(LATER), ("BadRoom", 33), 33)
        self.refused(disk_of(LATER), ("Wounded", (0, 1)), 32)
        self.refused(disk_of(LATER, ((5, (12, ())),)), ("BadTape", 5))
        self.refused(disk_of(LATER, ((5, (12, ())),), rest="x\n"), ("BadTape", 5))
        self.refused(disk_of(LATER, ((5, (12, ())),)), ("BadRoom", True), True)

    def test_a_disk_that_has_fallen_is_refused_first(self):
        disk = read_disk(disk_text(disk_of(LATER)), 0)
        self.refused(disk, ("Wounded", (0, 1)))
        disk = read_disk(disk_text(disk_of(NEW)), 0)
        self.refused(disk, ("BadRoom", 0), 0)
        self.refused(disk, ("Fallen", 0))

    def test_examples_e_and_f(self):
        head = (5, "head", (0, 3) + (0,) * 30)
        disk = disk_of((head,), ((1, (0, ())), (7, spoilt(frame_text(7, 0, ()), 3, "q"))))
        self.refused(disk, ("Wounded", (1,)))
        roll = ((4, "head", (2, 3) + (0,) * 30), (5, "begin", None), (6, "deed", ("add", 1, "a", 0, 0, "a", 0, 1)))
        disk = disk_of(roll, ((0, "x"), (1, (6, (("a", (3,)),)))))
        self.refused(disk, ("Wounded", (0, 1)))
        self.refused(disk_of(roll + ((7, "end", None),), ((0, "x"), (1, (6, (("a", (3,)),))))), ("Wounded", (0,)))

    def test_the_worked_example(self):
        disk = Disk()
        work = opened(disk)
        work.begin()
        work.do(("put", 0, "a", None, (1,)))
        work.do(("put", 1, "a", None, (2,)))
        work.end()
        work.checkpoint()
        work.begin()
        work.do(("add", 1, "a", 0, 0, "a", 0, 1))
        work.write(1)
        disk.spoil_frame(0, 0, "q")
        self.refused(disk, ("Wounded", (0, 1)))


class Steps(unittest.TestCase):
    """What is written, write by write."""

    def told(self, disk):
        """The writes of opening; behind a fall at each of them, opening once more leads to the same."""
        text = disk_text(disk)
        disk.news()
        work = opened(disk)
        told = disk.news()
        for fuse in range(len(told)):
            fallen = read_disk(text, fuse)
            with self.assertRaises(Fallen):
                opened(fallen)
            left = fallen.fell(len(fallen.tape()) - fallen.safe())
            again = opened(left)
            self.assertEqual(pages_of(again), pages_of(work))
            self.assertEqual(again.roll(), work.roll())
            self.assertEqual([left.frame(page) for page in range(32)], [disk.frame(page) for page in range(32)])
        opened(disk)
        self.assertEqual(disk.news(), [])
        return told

    def test_a_new_disk(self):
        disk = Watched()
        work = opened(disk)
        self.assertEqual(disk_text(disk), disk_text(Disk()))
        self.assertEqual(disk.news(), [])
        self.assertEqual((work.roll(), work.pending(), work.dirty(), work.live(), work.kept()), ((FIRST_HEAD,), (), (), None, ()))
        self.assertEqual(pages_of(work), [()] * 32)

    def test_the_tape(self):
        clean = ((0, (4, ())), (1, (3, ROWS)))
        self.assertEqual(self.told(disk_of(NEW, clean)), [])
        for rest in ("6", "6 begin 002", "6 begin 002731", "x", " "):
            self.assertEqual(self.told(disk_of(NEW, clean, rest=rest)), [("cut", roll_text(NEW))])
        disk = disk_of(NEW, clean)
        disk.add_tape(lines((6, "begin", None), (7, "end", None)))
        self.assertEqual(self.told(disk), [("sync",)])
        disk = disk_of(NEW, clean)
        disk.add_tape(lines((6, "begin", None)) + "7 ")
        self.assertEqual(self.told(disk), [("cut", roll_text(NEW) + lines((6, "begin", None)))])
        self.assertEqual(disk.safe(), len(disk.tape()))
        disk = Watched()
        disk.add_tape("no line")
        self.assertEqual(self.told(disk), [("cut", "")])

    def test_the_shelf(self):
        shelf = shelf_text(((0, 4, ()), (1, 3, ROWS)))
        both = [("frame", 0, frame_text(0, 4, ())), ("frame", 1, frame_text(1, 3, ROWS))]
        empty = [("shelf", "")]
        self.assertEqual(self.told(disk_of(NEW, (), shelf)), both + empty)
        self.assertEqual(self.told(disk_of(NEW, ((0, (4, ())), (1, "x")), shelf)), both[1:] + empty)
        self.assertEqual(self.told(disk_of(NEW, ((0, (2, ROWS)), (1, (3, ROWS))), shelf)), both[:1] + empty)
        self.assertEqual(self.told(disk_of(NEW, ((0, (4, ())), (1, (3, ROWS))), shelf)), empty)
        for text in ("x", "\n", shelf[:-1], shelf + "\n", "shelf 0\nsum 002"):
            self.assertEqual(self.told(disk_of(NEW, ((0, (4, ())), (1, (3, ROWS))), text)), empty)
            self.assertEqual(self.told(disk_of(NEW, (), text)), empty + TO_END)
        self.assertEqual(self.told(disk_of(NEW, (), shelf_text(((1, 3, ROWS),)))), both[1:] + empty + [
            TO_END[0], ("frame", 1, frame_text(1, 0, ())), TO_END[1], TO_END[2]])

    def test_frames_of_the_shelf_that_are_not_right_are_written_first(self):
        right = ((0, (4, ())), (1, (3, ROWS)))
        told = self.told(disk_of(NEW, right, shelf_text(((2, 1, ROWS), (3, 0, ROWS), (4, 0, ())))))
        self.assertEqual(told, [
            ("frame", 2, frame_text(2, 1, ROWS)), ("frame", 3, frame_text(3, 0, ROWS)), ("frame", 4, frame_text(4, 0, ())), ("shelf", ""),
            ("frame", 2, frame_text(2, 0, ())), ("frame", 3, frame_text(3, 0, ()))])

    def test_blank_pages(self):
        right = ((0, (4, ())), (1, (3, ROWS)))
        wrong = (frame_text(5, 4, ()), frame_text(4, 0, ()), "", "x", frame_text(5, 0, ROWS), spoilt(frame_text(5, 0, ()), 0, "q"))
        for frame in wrong:
            self.assertEqual(self.told(disk_of(NEW, right + ((5, frame),))), [("frame", 5, frame_text(5, 0, ()))])
            self.assertEqual(self.told(disk_of(LATER[:1], ((0, (4, k(1))), (1, (6, k(2))), (5, frame)))), [("frame", 5, frame_text(5, 0, ()))])
        self.assertEqual(self.told(disk_of(NEW, right + ((5, (0, ())),))), [])
        told = self.told(disk_of(NEW, ((9, "y"), (0, (1, ())), (3, "z"))))
        self.assertEqual(told, [("frame", page, frame_text(page, 0, ())) for page in (0, 3, 9)] + TO_END)

    def test_the_last_rule(self):
        blank = [("frame", 0, frame_text(0, 0, ()))]
        self.assertEqual(self.told(disk_of(NEW, ((0, (4, ())),))), blank + TO_END)
        self.assertEqual(self.told(disk_of(NEW, ((0, (4, ())), (1, (0, ()))))), blank + TO_END)
        self.assertEqual(self.told(disk_of(NEW, ((0, (4, ())), (1, "x"), (2, "y")))), blank + [
            ("frame", 1, frame_text(1, 0, ())), ("frame", 2, frame_text(2, 0, ()))] + TO_END)

    def test_moves(self):
        self.assertEqual(self.told(disk_of(NEW)), TO_END)
        back = [("frame", 0, frame_text(0, 0, ()))]
        self.assertEqual(plan(bare_of(NEW), (1, 0) + (0,) * 30), ((1, -1), (1, 1), (2, 1), (3, 1)))
        self.assertEqual(self.told(disk_of(NEW, ((0, (2, ROWS)),))), back + TO_END)
        self.assertEqual(self.told(disk_of(NEW, ((1, (3, ROWS)),))), [
            TO_END[0], ("frame", 1, frame_text(1, 0, ())), TO_END[1], TO_END[2]])
        self.assertEqual(self.told(disk_of(LATER, ((0, (9, k(2))), (1, (6, k(7)))))), [
            ("frame", 0, frame_text(0, 4, k(1))), ("frame", 0, frame_text(0, 9, k(2))), ("frame", 1, frame_text(1, 10, k(9)))])

    def test_all_steps_at_once(self):
        disk = disk_of(NEW, ((4, "x"), (0, "y")), shelf_text(((1, 3, ROWS),)))
        disk.add_tape("6 b")
        self.assertEqual(self.told(disk), [
            ("cut", roll_text(NEW)), ("frame", 1, frame_text(1, 3, ROWS)), ("shelf", ""), ("frame", 0, frame_text(0, 0, ())),
            ("frame", 4, frame_text(4, 0, ())), TO_END[0], ("frame", 1, frame_text(1, 0, ())), TO_END[1], TO_END[2]])

    def test_an_open_work(self):
        disk = disk_of(NEW[:4])
        work = opened(disk)
        self.assertEqual(disk.news(), TO_END[:2])
        self.assertEqual(work.pending(), (
            (4, "back", (3, ("drop", 1, 0, None, None))), (5, "back", (2, ("put", 0, "k", (5,), None))), (6, "end", None)))
        self.assertEqual((work.dirty(), work.image()[:3], work.live()), ((1, 0), (1, 1, 0), None))
        self.assertEqual((work.page(0), work.page(1), work.number(0), work.number(1)), ((), (), 5, 4))
        self.assertEqual(disk.tape(), roll_text(NEW[:4]))
        self.assertEqual(self.told(disk), [])
        self.assertEqual((opened(disk).begin(), opened(disk).pending()), (7, work.pending()))

    def test_an_open_work_whose_back_entries_are_on_the_tape_in_part(self):
        work = opened(disk_of(NEW[:4]))
        for many in range(4):
            disk = disk_of(NEW[:4])
            disk.add_tape(lines(*work.pending()[:many]))
            again = opened(disk)
            self.assertEqual(again.pending(), work.pending()[many:])
            self.assertEqual((pages_of(again), again.roll()), (pages_of(work), work.roll()))
            self.assertEqual(self.told(disk), [])

    def test_example_d(self):
        entries = NEW[:4] + ((4, "back", (3, ("drop", 1, 0, None, None))),)
        self.assertEqual(opened(disk_of(entries)).pending(), ((5, "back", (2, ("put", 0, "k", (5,), None))), (6, "end", None)))

    def test_examples_a_to_c(self):
        disk = Watched()
        work, numbers = example(disk)
        self.assertEqual((disk.writes(), numbers, work.may_go(0), work.may_go(1)), (0, [1, 2, 3, 4, 5], False, True))
        self.assertEqual(bare_of(work.roll())[1], ((0, ()), (1, (0,)), (0, (1,))))
        work.write(1)
        left = disk.fell(0)
        again = opened(left)
        self.assertEqual((disk.writes(), work.may_go(0), left.writes(), again.page(0), again.page(1)), (3, True, 4, (), ROWS))
        disk = Watched()
        work, _ = example(disk)
        work.write_knot(0)
        before = disk.writes()
        self.assertEqual((before, work.cut_head(), disk.writes(), work.roll()[0][:2], work.roll()[0][2][:3]), (6, 5, 7, (5, "head"), (4, 3, 0)))
        disk = Watched()
        work = opened(disk, 1)
        work.begin()
        work.do(PUT)
        work.do(TAKE)
        self.assertEqual([each[:2] for each in disk.news()[2:]], [("frame", 0)])
        work.do(DROP)
        self.assertEqual([each[:2] for each in disk.news()[2:]], [("frame", 1)])

    def test_no_write_behind_a_checkpoint_and_a_safe_log(self):
        for seed in range(20):
            luck = chance(seed)
            disk = Watched()
            work = opened(disk, luck.choice((1, 2, 32)))
            for _ in range(luck.randint(0, 4)):
                work.begin()
                for _ in range(luck.randint(0, 5)):
                    work.do(some_deed(luck, work.page, 4))
                luck.choice((work.end, work.give_up))()
                if luck.random() < 0.3:
                    work.write_all()
            work.checkpoint()
            work.sync_log()
            disk.news()
            again = opened(disk)
            self.assertEqual(disk.news(), [])
            self.assertEqual((pages_of(again), again.roll()), (pages_of(work), work.roll()))

    def expected(self, disk):
        """The writes of [19.2], straight by its words."""
        roll, good, stands = stands_of(disk)
        copy = read_disk(disk_text(disk))
        told = []
        if len(disk.tape()) > good:
            told.append(("cut", disk.tape()[:good]))
        elif disk.safe() < len(disk.tape()):
            told.append(("sync",))
        shelf = read_shelf(disk.shelf())
        for page, number, rows in shelf or ():
            if copy.frame(page) != frame_text(page, number, rows):
                told.append(("frame", page, frame_text(page, number, rows)))
                copy.put_frame(page, frame_text(page, number, rows))
        if disk.shelf() != "":
            told.append(("shelf", ""))
        for page in range(32):
            if stands[page] == (0, ()) and copy.frame(page) not in (None, frame_text(page, 0, ())):
                told.append(("frame", page, frame_text(page, 0, ())))
        deeds = deeds_of(roll)
        told_pages = [deeds[t - 1][1][1] for t, _ in plan(bare_of(roll), image_of(roll, stands))]
        led = puts(roll, stands)
        self.assertEqual([page for page, _, _ in led], told_pages)
        return told + [("frame", page, frame_text(page, number, rows)) for page, number, rows in led]

    def test_disks_of_all_kinds(self):
        luck = chance(19)
        wounded = opened_well = 0
        for _ in range(250):
            roll, versions = self.some_roll(luck)
            frames, shelf = {}, []
            for page in range(4):
                kind = luck.choice(("right", "right", "right", "none", "spoilt", "wrong"))
                number, rows = luck.choice(versions[page])
                text = {"right": frame_text(page, number, rows), "none": None, "spoilt": "x", "wrong": frame_text(page, 0, (("w", (1,)),))}[kind]
                if text is not None:
                    frames[page] = text
                if luck.random() < 0.2:
                    shelf.append((page,) + luck.choice(versions[page]))
            disk = disk_of(roll, tuple(frames.items()), luck.choice((shelf_text(tuple(shelf)), "", "no shelf")), luck.choice(("", "", "7 x")))
            if luck.random() < 0.5:
                disk = self.unsafe(disk, roll)
            _, _, stands = stands_of(disk)
            pages = wounded_by(roll, stands)
            if pages:
                before = disk_text(disk)
                self.assertEqual(refusal(opened, disk), ("Wounded", pages))
                self.assertEqual(disk_text(disk), before)
                wounded += 1
                continue
            expected = self.expected(disk)
            self.assertEqual(self.told(disk), expected)
            for page in range(4):
                self.assertEqual(disk.frame(page) or frame_text(page, 0, ()), frame_text(page, *versions[page][-1]))
            opened_well += 1
        self.assertGreater(min(wounded, opened_well), 60)

    def unsafe(self, disk, roll):
        """The same disk, of whose tape only the first half is safe."""
        head = disk_text(disk).partition("tape ")
        text = disk.tape()
        return watched(head[0] + f"tape {len(text) // 2} {len(text)}\n{text}\nshelf {len(disk.shelf())}\n{disk.shelf()}\n")

    def some_roll(self, luck):
        """A roll, with a head or without one, and the versions of its pages: number and rows."""
        work = opened(Disk())
        head = luck.choice((0, 0, 1, 2))
        versions = None
        for count in range(luck.randint(1, 3) + head):
            if count == head:
                work.checkpoint()
                versions = [[(work.number(page), work.page(page))] for page in range(32)]
            work.begin()
            for _ in range(luck.randint(1, 4)):
                work.do(some_deed(luck, work.page, 4))
                if versions is not None:
                    page = work.kept()[-1][1]
                    versions[page].append((work.number(page), work.page(page)))
            work.end()
        return work.roll(), versions


class Damage(unittest.TestCase):
    def store(self, luck, works=4, head=True):
        """A disk behind some works, with its pages, all of them written and no work open."""
        disk = Watched()
        work = opened(disk, 32)
        for count in range(works):
            work.begin()
            for _ in range(luck.randint(2, 5)):
                work.do(some_deed(luck, work.page, 4))
            work.end()
            if head and count == 1:
                work.checkpoint()
            if luck.random() < 0.4:
                work.write_all()
        work.sync_log()
        return disk, work

    def test_one_sign_of_one_frame(self):
        luck = chance(5)
        seen = {"well": 0, "wounded": 0}
        for head in (False, True):
            for _ in range(12):
                disk, work = self.store(luck, head=head)
                text = disk_text(disk)
                roll = work.roll()
                for page in disk.frame_ids():
                    for place in range(len(disk.frame(page))):
                        hurt = read_disk(text)
                        hurt.spoil_frame(page, place, "q" if disk.frame(page)[place] != "q" else "r")
                        seen[self.check(hurt, disk, page, roll, work)] += 1
        self.assertGreater(min(seen.values()), 100)

    def check(self, hurt, disk, page, roll, work):
        """All pages are as they were, or just the pages of [19.1] are told and nothing is written."""
        stands = list(stands_of(disk)[2])
        stands[page] = None if roll[0][2][page] > 0 else (0, ())
        log = bare_of(roll)
        if roll[0][0] == 0 or mendable(log, image_of(roll, tuple(stands))):
            self.assertEqual(pages_of(opened(hurt)), pages_of(work))
            return "well"
        before = disk_text(hurt)
        with self.assertRaises(Wounded) as caught:
            opened(hurt)
        self.assertEqual(caught.exception.what, wounded_by(roll, tuple(stands)))
        self.assertEqual((disk_text(hurt), hurt.writes()), (before, 0))
        return "wounded"

    def test_one_sign_of_the_tape(self):
        luck = chance(6)
        for head in (False, True):
            disk, work = self.store(luck, works=3, head=head)
            text, tape = disk_text(disk), disk.tape()
            for place in range(len(tape) - 1):
                for sign in ("q", "\n", "0", " ", "-"):
                    if tape[place] == sign:
                        continue
                    hurt = read_disk(text)
                    hurt.spoil_tape(place, sign)
                    before = disk_text(hurt)
                    with self.assertRaises(BadTape) as caught:
                        opened(hurt)
                    self.assertEqual(caught.exception.what, tape[:place].count("\n"))
                    self.assertEqual(disk_text(hurt), before)

    def test_the_last_line_end_of_the_tape(self):
        disk = disk_of(NEW, ((0, (4, ())), (1, (3, ROWS))))
        disk.spoil_tape(len(disk.tape()) - 1, "q")
        work = opened(disk)
        self.assertEqual(disk.tape(), roll_text(NEW[:-1]))
        self.assertEqual((work.pending()[0][1], work.page(0), work.page(1)), ("back", (), ()))
        disk = disk_of(NEW[:-1], ((0, (4, ())), (1, (3, ROWS))))
        disk.spoil_tape(len(disk.tape()) - 1, "q")
        self.assertEqual(refusal(opened, disk), ("BadTape", 3))
        disk = disk_of(LATER[:1], ((0, (4, ())), (1, (6, ROWS))))
        disk.spoil_tape(len(disk.tape()) - 1, "q")
        self.assertEqual(refusal(opened, disk), ("BadTape", 0))


class Shapes(unittest.TestCase):
    """Two logs of the same shape, with other words and other contents."""

    FIRST = {
        "plain": lambda page, turn: ("bump", page, "k", 0, 1 + turn),
        "read": lambda page, read, turn: ("add", page, "k", 0, read, "k", 0, 1),
    }
    SECOND = {
        "plain": lambda page, turn: ("put", page, f"x{turn}", None, (turn, 3)),
        "read": lambda page, read, turn: (("take", page, read, "zz", None), ("tally", page, "k", 1, read, "k", "ka", 0, -1))[turn % 2],
    }

    def disk(self, shape, words, value, writes):
        disk = Watched()
        work = opened(disk)
        work.begin()
        for page in range(4):
            work.do(("put", page, "k", None, value))
        work.end()
        work.checkpoint()
        work.begin()
        for turn, (page, read) in enumerate(shape):
            work.do(words["plain"](page, turn) if read is None else words["read"](page, read, turn))
            for wanted in writes.get(turn, ()):
                if work.may_go(wanted):
                    work.write(wanted)
        work.end()
        work.sync_log()
        return disk, work

    def seen(self, disk, lost):
        left = watched(disk_text(disk))
        for page in lost:
            left.spoil_frame(page, 0, "q")
        try:
            opened(left)
        except Wounded as error:
            return error.what
        return [each[:2] + (each[2].split("\n")[0],) for each in left.news() if each[0] == "frame"]

    def test_the_same_is_written_or_named(self):
        luck = chance(44)
        written = named = 0
        for _ in range(60):
            shape = []
            for _ in range(luck.randint(3, 10)):
                page = luck.randrange(4)
                shape.append((page, luck.choice([None] + [other for other in range(4) if other != page])))
            writes = {turn: [luck.randrange(4)] for turn in range(10) if luck.random() < 0.4}
            one, first = self.disk(shape, self.FIRST, (3,), writes)
            two, second = self.disk(shape, self.SECOND, (-7, 9), writes)
            self.assertEqual(bare_of(first.roll()), bare_of(second.roll()))
            self.assertEqual(first.image(), second.image())
            for lost in ((), (luck.randrange(4),)):
                seen = self.seen(one, lost)
                self.assertEqual(seen, self.seen(two, lost))
                written += isinstance(seen, list) and len(seen) > 0
                named += isinstance(seen, tuple)
        self.assertGreater(min(written, named), 15)


class LongTapes(unittest.TestCase):
    """The bounds of the log, for works of disks that were not new."""

    def test_entries(self):
        entries = [FIRST_HEAD]
        for number in range(1, 1699, 2):
            entries += [(number, "begin", None), (number + 1, "end", None)]
        disk = disk_of(tuple(entries))
        work = opened(disk)
        self.assertEqual(len(work.roll()), 1699)
        self.assertEqual(work.begin(), 1699)
        self.assertEqual(work.do(PUT), 1700)
        self.assertEqual(work.end(), 1701)
        before = (disk_text(disk), work.roll())
        self.assertEqual(refusal(work.begin), ("Full", 1700))
        self.assertEqual((disk_text(disk), work.roll()), before)
        work.sync_log()
        again = opened(disk.fell(0))
        self.assertEqual(refusal(again.begin), ("Full", 1700))
        again.checkpoint()
        self.assertEqual((again.begin(), len(again.roll())), (1702, 2))

    def test_deeds(self):
        for finished in (398, 399):
            entries = [FIRST_HEAD, (1, "begin", None), (2, "deed", PUT)]
            entries += [(number, "deed", BUMP) for number in range(3, finished + 2)]
            entries.append((finished + 2, "end", None))
            disk = disk_of(tuple(entries))
            work = opened(disk)
            self.assertEqual(len(work.kept()), finished)
            work.begin()
            if finished == 398:
                self.assertEqual(work.do(BUMP), 402)
            before = (disk_text(disk), work.roll(), work.dirty())
            self.assertEqual(refusal(work.do, BUMP), ("Full", 400))
            self.assertEqual(refusal(work.do, PUT), ("Unfit", PUT))
            self.assertEqual((disk_text(disk), work.roll(), work.dirty()), before)

    def test_an_open_work_that_fills_the_log(self):
        entries = [FIRST_HEAD, (1, "begin", None), (2, "deed", PUT)] + [(number, "deed", BUMP) for number in range(3, 202)]
        disk = disk_of(tuple(entries))
        work = opened(disk, 1)
        self.assertEqual((len(work.kept()), work.page(0), len(work.pending())), (400, (), 201))
        work.begin()
        self.assertEqual(refusal(work.do, PUT), ("Full", 400))
        work.sync_log()
        again = opened(disk.fell(0))
        self.assertEqual((len(again.kept()), again.page(0)), (400, ()))


class Ringless(unittest.TestCase):
    def test_pages_are_never_refused(self):
        for seed in range(25):
            luck = chance(seed)
            disk = Disk()
            work = opened(disk, luck.choice((1, 2, 32)))
            for _ in range(5):
                work.begin()
                for _ in range(6):
                    work.do(self.deed(luck, work.page))
                    self.assertTrue(all(work.may_go(page) for page in range(5)))
                    if luck.random() < 0.3:
                        work.write(luck.randrange(5))
                luck.choice((work.end, work.end, work.give_up))()
                if luck.random() < 0.3:
                    disk = disk.fell(luck.choice((0, len(disk.tape()) - disk.safe())))
                    work = opened(disk, luck.choice((1, 2, 32)))

    def deed(self, luck, look):
        """A deed that reads only a page below its own."""
        while True:
            deed = some_deed(luck, look, 5)
            if deed[0] in ("take", "drop") and deed[2] > deed[1] or deed[0] in ("add", "tally") and deed[4] > deed[1]:
                continue
            return deed


class Knots(unittest.TestCase):
    def test_a_knot_cut_at_each_of_its_writes(self):
        for fuse in range(7):
            disk = Disk(fuse)
            work, _ = example(disk)
            if fuse < 6:
                with self.assertRaises(Fallen):
                    work.write_knot(0)
            else:
                work.write_knot(0)
            self.assertEqual(disk.writes(), fuse)
            for keep in {0, len(disk.tape()) - disk.safe()}:
                left = disk.fell(keep)
                there = len(left.tape()) > 0
                again = opened(left)
                self.assertEqual((again.page(0), again.page(1)), ((), ROWS if there else ()))
                roll = again.roll()
                self.assertEqual(roll, read_tape(left.tape())[0])
                self.assertTrue(may_write(bare_of(roll), again.image(), ()))


if __name__ == "__main__":
    unittest.main()

import unittest

from samples import THINGS, chance, pages_of, refusal
from tables_model import BLANK, MOST, Dicts, NoFreePage, Words, some_storedeed, view_of
from wendleaf.bare import bare
from wendleaf.checker import faults, meaning
from wendleaf.disk import Disk, disk_text, read_disk
from wendleaf.errors import Fallen, Full, NoPage, NotYet, Refused, Wounded
from wendleaf.logread import read_tape
from wendleaf.opening import opened
from wendleaf.past import past, past_works
from wendleaf.rings import order
from wendleaf.store import Store
from wendleaf.storetexts import read_store, store_text
from wendleaf.sums import count, nth, total
from wendleaf.tables import planned
from wendleaf.trees import get, own_pages, shared, walk

MAKE = ("make", "a", 1, 400)
MANNERS = ("short", "ringless")


def puts_of(first, last, number=1):
    return tuple(("put", "a", f"k{n:03}", (number,)) for n in range(first, last))


class Told:
    """A work that tells which of its methods were called, and has no others than a store may use."""

    def __init__(self, work):
        self.work = work
        self.calls = []

    def page(self, page):
        return self.work.page(page)

    def kept(self):
        return self.work.kept()

    def begin(self):
        self.calls.append("begin")
        return self.work.begin()

    def do(self, deed):
        self.calls.append(deed)
        return self.work.do(deed)

    def end(self):
        self.calls.append("end")
        return self.work.end()


class Stores(unittest.TestCase):
    def test_what_is_called(self):
        for manner in MANNERS:
            told = Told(opened(Disk()))
            store = Store(told, manner)
            self.assertEqual(store.view(), BLANK)
            self.assertEqual(store.do(MAKE), 1)
            self.assertEqual(told.calls, ["begin", ("put", 0, "t.a", None, (1, 0, 1, 400)), "end"])
            self.assertEqual(store.do_all((("put", "a", "k", (5,)), ("snap", "a", "s"), ("put", "a", "k", (6,)))), 5)
            plan = planned(view_of(MAKE), (("put", "a", "k", (5,)), ("snap", "a", "s"), ("put", "a", "k", (6,))), told.kept()[:1], manner)
            self.assertEqual(told.calls[3:], ["begin", *plan, "end"])
            self.assertEqual(told.kept(), (("put", 0, "t.a", None, (1, 0, 1, 400)),) + plan)
            self.assertEqual(store.view(), tuple(pages_of(told)))
            self.assertEqual(told.work.roll()[-1][0], 10)

    def test_the_worked_examples(self):
        store = Store(opened(Disk()), "short")
        for deed in (MAKE, ("put", "a", "k", (5,)), ("snap", "a", "s")):
            self.assertEqual(store.do(deed), 1)
        plan = planned(store.view(), (("put", "a", "k", (6,)),), (), "short")
        self.assertEqual(plan, (("take", 2, 1, None, None), ("bump", 0, "t.a", 0, 1), ("put", 2, "k", (5,), (6,))))
        self.assertEqual(store.do(("put", "a", "k", (6,))), 3)
        self.assertEqual(store.do(("fade", "s")), 2)
        self.assertEqual(meaning(store.view()), (("t.a", 1, 400, (("k", (6,)),)),))

    def test_an_empty_plan(self):
        disk = Disk()
        work = opened(disk)
        store = Store(work, "short")
        store.do_all((MAKE, ("put", "a", "k", (5,))))
        nothing = (("put", "a", "k", (5,)), ("shift", "a", "k", 0, 0), ("clear", "a", "l", None))
        for deeds in (nothing, nothing[:1], nothing * 6):
            before = state(disk, work)
            self.assertEqual(store.do_all(deeds), 0)
            self.assertEqual(state(disk, work), before)
        # Also while a work is open, and with a log in which there is no room.
        work.begin()
        self.assertEqual(store.do_all(nothing), 0)
        work.end()
        for number in range(work.roll()[-1][0] + 1, 1700, 2):
            work.begin()
            work.end()
        self.assertEqual(len(work.roll()), 1701)
        self.assertEqual(store.do_all(nothing), 0)
        self.assertEqual(refusal(store.do, ("drop", "a", "k")), ("Full", 1700))

    def test_how_many_at_once(self):
        for many in (1, 2, 19, 20):
            store = Store(opened(Disk()), "short")
            store.do(MAKE)
            self.assertGreaterEqual(store.do_all(puts_of(0, many)), many)
            self.assertEqual(count(lambda page: store.view()[page], "t.a", None, None), many)

    def test_one_and_several_lead_to_the_same(self):
        deeds = puts_of(0, 20)
        one = Store(opened(Disk()), "short")
        all_of_them = Store(opened(Disk()), "short")
        one.do(MAKE)
        all_of_them.do(MAKE)
        self.assertEqual(sum(one.do(deed) for deed in deeds), all_of_them.do_all(deeds))
        self.assertEqual(one.view(), all_of_them.view())

    def test_questions_of_a_store(self):
        work = opened(Disk())
        store = Store(work, "ringless")
        store.do(MAKE)
        store.do_all(tuple(("put", "a", f"k{n:03}", (n,)) for n in range(20)))
        store.do(("snap", "a", "s"))
        store.do(("put", "a", "k003", (100,)))
        self.assertEqual((get(work.page, "t.a", "k003"), get(work.page, "s.s", "k003"), get(work.page, "t.a", "k02")), ((100,), (3,), None))
        self.assertEqual(walk(work.page, "t.a", "k002", "k005"), (("k002", (2,)), ("k003", (100,)), ("k004", (4,))))
        self.assertEqual((count(work.page, "t.a", "k002", None), total(work.page, "t.a", 0, None, None), nth(work.page, "s.s", 7)), (18, 287, "k007"))
        both = set(own_pages(work.page, "t.a")) | set(own_pages(work.page, "s.s"))
        self.assertEqual((len(both), both & set(shared(work.page, "t.a", "s.s"))), (4, set()))


def state(disk, work):
    return disk_text(disk), disk.writes(), work.roll(), work.pending(), work.dirty(), tuple(pages_of(work)), work.kept(), work.live()


class Refusals(unittest.TestCase):
    def setUp(self):
        self.disk = Disk()
        self.work = opened(self.disk, 3)
        self.store = Store(self.work, "short")
        self.store.do_all((MAKE, ("put", "a", "k", (5,)), ("make", "b", 2, 1), ("snap", "a", "s")))

    def refused(self, error, deeds):
        before = state(self.disk, self.work)
        self.assertEqual(refusal(self.store.do_all, deeds), error)
        if isinstance(deeds, tuple) and len(deeds) == 1:
            self.assertEqual(refusal(self.store.do, deeds[0]), error)
        self.assertEqual(state(self.disk, self.work), before)

    def test_no_tuples(self):
        for deeds in (None, 1, True, "abc", [MAKE], [], {MAKE: 1}, ""):
            self.refused(("BadStoreDeed", -1), deeds)

    def test_too_many(self):
        self.refused(("TooMany", 0), ())
        for many in (21, 22, 100):
            self.refused(("TooMany", many), (("put", "a", "k", (6,)),) * many)
            self.refused(("TooMany", many), (None,) * many)

    def test_things_that_are_no_store_deeds(self):
        good, late = ("put", "a", "k", (6,)), ("put", "none", "k", (6,))
        for thing in THINGS:
            self.refused(("BadStoreDeed", 0), (thing,))
            self.refused(("BadStoreDeed", 0), (late, good, thing))
        self.refused(("BadStoreDeed", 3), (good, ("put", "a", "k", (MOST + 1,)), ("put", "A", "k", (1,))))
        self.refused(("BadStoreDeed", 1), (good, ("put", "A", "k", (MOST + 1,)), ("put", "a", "k", ())))
        self.refused(("BadStoreDeed", 3), (("clear", "none", "b", "a"),))
        self.refused(("BadStoreDeed", 0), ("put", "a", "k", (6,)))

    def test_errors_of_the_plan(self):
        good = ("put", "a", "k", (6,))
        for deeds, error in (
                ((good, ("drop", "a", "z")), ("NoName", "z")), ((("make", "a", 1, 1),), ("Known", "t.a")), ((("end", "c"), ("drop", "a", "z")), ("NoTable", "t.c")),
                ((("fade", "a"),), ("NoTable", "s.a")), ((good, ("put", "a", "k", (1, 2))), ("BadWidth", 1)),
                ((("put", "b", "k", (1, 2)), ("put", "b", "m", (1, 2))), ("OverLimit", 1)), ((("shift", "a", "k", 1, 5),), ("BadNumber", 1)),
                ((good, ("shift", "a", "k", 0, MOST)), ("TooGreat", MOST + 6)),
                (tuple(("snap", "a", f"x{n}") for n in range(10)), ("BookFull", 12))):
            self.refused(error, deeds)

    def test_no_page(self):
        self.store = Store(opened(Disk()), "short")
        self.work, self.disk = self.store._work, Disk()
        self.store.do_all((MAKE,) + tuple(("make", f"t{n}", 1, 9) for n in range(11)))
        for first in range(0, 400, 10):
            try:
                self.store.do_all(puts_of(first, first + 10))
            except Full:
                self.work.checkpoint()
            except NoPage as error:
                self.assertEqual(error.what, 0)
                self.refused(("NoPage", 0), puts_of(first, first + 10))
                return
        self.fail("there was a page for everything")

    def test_an_open_work(self):
        self.work.begin()
        number = self.work.roll()[-1][0]
        self.refused(("Open", number), (("put", "a", "k", (6,)),))
        self.refused(("NoName", "z"), (("drop", "a", "z"),))

    def test_a_log_with_too_many_entries(self):
        while len(self.work.roll()) < 1699:
            self.work.begin()
            self.work.end()
        self.assertEqual(self.store.do(("put", "a", "k", (6,))), 3)
        self.refused(("Full", 1700), (("put", "a", "k", (7,)),))
        self.refused(("NoName", "z"), (("drop", "a", "z"),))
        self.work.checkpoint()
        self.assertEqual(self.store.do(("put", "a", "k", (7,))), 1)

    def test_a_log_with_too_many_deeds(self):
        kept = len(self.work.kept())
        self.store.do(("put", "a", "k", (6,)))
        self.assertEqual(len(self.work.kept()), kept + 3)
        # A plan of one deed needs room for two.
        for number in range(400 - kept - 3 - 1):
            self.assertEqual(self.store.do(("put", "a", "k", (7 + number,))), 1)
        self.assertEqual(len(self.work.kept()), 399)
        self.refused(("Full", 400), (("put", "a", "k", (0,)),))
        self.assertEqual(self.store.do(("put", "a", "k", get(self.work.page, "t.a", "k"))), 0)
        self.refused(("NoName", "z"), (("put", "a", "k", (0,)), ("drop", "a", "z")))
        # The log is full for begin, too, but the deeds are asked first.
        self.work.begin()
        self.refused(("Full", 400), (("put", "a", "k", (0,)),))
        self.work.end()
        self.work.checkpoint()
        self.assertEqual(self.store.do(("put", "a", "k", (0,))), 1)

    def test_the_last_plan_that_finds_room(self):
        for many, fits in ((20, True), (21, False)):
            store = Store(opened(Disk()), "short")
            store.do(MAKE)
            for number in range(359 if many == 20 else 358):
                store.do(("put", "a", "k", (number,)))
            deeds = puts_of(0, 11) + tuple(("shift", "a", "k", 0, 1) for _ in range(many - 12))
            plan = planned(store.view(), deeds, (), "short")
            self.assertEqual(len(plan), many - 1)
            if fits:
                store.do(("shift", "a", "k", 0, 1))
                self.assertEqual(len(store._work.kept()) + 2 * len(plan), 361 + 38)
                self.assertEqual(store.do_all(deeds), 19)
            else:
                store.do(("shift", "a", "k", 0, 1))
                store.do(("shift", "a", "k", 0, 1))
                self.assertEqual(len(store._work.kept()) + 2 * len(plan), 361 + 40)
                self.assertEqual(refusal(store.do_all, deeds), ("Full", 400))
                self.assertEqual(store.do_all(deeds[:-1]), 19)

    def test_a_plan_that_is_too_long_for_any_log(self):
        work = opened(Disk())
        store = Store(work, "short")
        store.do(MAKE)
        for first in range(0, 120, 10):
            store.do_all(puts_of(first, first + 10))
            work.checkpoint()
        plan = planned(store.view(), (("clear", "a", None, None),), work.kept(), "short")
        self.assertGreater(len(plan), 200)
        before = work.roll()
        self.assertEqual(refusal(store.do, ("clear", "a", None, None)), ("Full", 400))
        work.checkpoint()
        self.assertEqual(refusal(store.do, ("clear", "a", None, None)), ("Full", 400))
        self.assertEqual(work.roll(), before)
        self.assertGreater(store.do(("clear", "a", None, "k020")), 0)


class Film(Disk):
    """A disk that keeps a copy of itself behind each of its writes, and how many store deeds were finished by then."""

    def __init__(self, history=()):
        super().__init__()
        self.history = history
        self.pictures = []

    def _count_write(self):
        super()._count_write()
        self.pictures.append(None)

    def take(self):
        self.pictures[-1] = (disk_text(self), len(self.history))

    def put_frame(self, page, text):
        super().put_frame(page, text)
        self.take()

    def add_tape(self, text):
        super().add_tape(text)
        self.take()

    def sync(self):
        super().sync()
        self.take()

    def put_shelf(self, text):
        super().put_shelf(text)
        self.take()

    def cut_tape(self, text):
        super().cut_tape(text)
        self.take()


def meaning_at(history, last):
    """What the store means behind the last store deed whose end entry has at most this number."""
    found = ()
    for number, told in history:
        if number <= last:
            found = told
    return found


def last_end(disk):
    """The number of the last end entry on the tape, or of its head."""
    roll, _ = read_tape(disk.tape())
    return [number for number, mark, _ in roll if mark in ("head", "end")][-1]


class Runs(unittest.TestCase):
    """Stores beside plain dicts, over writes and crashes."""

    NAMES = [f"n{n:02}" for n in range(34)]

    def some_deeds(self, luck, work, store, dicts, mood):
        """Store deeds that are to be done as one, their plan by the words of [25], the dicts behind them, and the error that is due."""
        words, trial, deeds, error = Words(store.view(), work.kept(), store._manner), dicts.copy(), [], None
        for _ in range(luck.choice((1, 1, 1, 2, 4))):
            deeds.append(some_storedeed(luck, trial, self.NAMES, mood))
            if error is None:
                error = trial.do(deeds[-1])
            if error is None:
                try:
                    words.storedeed(deeds[-1])
                except NoFreePage:
                    error = ("NoPage", 0)
        if error is None and words.plan and len(work.kept()) + 2 * len(words.plan) > 400:
            error = ("Full", 400)
        return tuple(deeds), tuple(words.plan), trial, error

    def step(self, luck, work, store, dicts, history, mood="mixed"):
        """Some store deeds as one; they are done as the dicts do them, or refused as they refuse them."""
        deeds, plan, trial, error = self.some_deeds(luck, work, store, dicts, mood)
        before = store.view()
        try:
            found = store.do(deeds[0]) if len(deeds) == 1 else store.do_all(deeds)
        except Fallen:
            raise
        except Refused as refused:
            self.assertEqual((refused.__class__.__name__, refused.what), error)
            self.assertEqual(store.view(), before)
            if error == ("Full", 400):
                work.checkpoint()
            return
        self.assertIs(error, None)
        self.assertEqual(found, len(plan))
        self.assertEqual(work.kept()[len(work.kept()) - found:], plan)
        dicts.tables = trial.tables
        history.append((work.roll()[-1][0], dicts.meaning()))

    def write(self, luck, work, manner):
        what = luck.choice(("write", "write", "write", "write_knot", "write_all", "checkpoint", "cut_head", "flush_log", "sync_log"))
        if what == "write":
            page = luck.randrange(32)
            may_go = work.may_go(page)
            self.assertTrue(may_go or manner == "short")
            try:
                work.write(page)
            except NotYet as error:
                self.assertEqual((error.what, may_go), (page, False))
        elif what == "write_knot":
            work.write_knot(luck.randrange(32))
        else:
            getattr(work, what)()

    def check(self, work, expected):
        view = tuple(pages_of(work))
        self.assertEqual(faults(view), ())
        self.assertEqual(meaning(view), expected)

    def test_long_runs(self):
        refused = 0
        for seed in range(8):
            luck, manner = chance(seed), MANNERS[seed % 2]
            disk = Disk()
            work = opened(disk, (32, 1, 3, 6)[seed // 2])
            store, dicts, history = Store(work, manner), Dicts(), []
            self.fill(luck, work, store, dicts, history)
            for turn in range(240):
                self.step(luck, work, store, dicts, history, ("grow", "mixed", "grow", "shrink")[turn // 30 % 4])
                if luck.random() < 0.3:
                    self.write(luck, work, manner)
                self.check(work, dicts.meaning())
                if manner == "ringless" and turn % 5 == 0:
                    self.assertTrue(all(work.may_go(page) for page in range(32)))
                elif turn % 5 == 0:
                    refused += not all(work.may_go(page) for page in range(32))
                if luck.random() < 0.1:
                    work.sync_log()
                    work = opened(disk.fell(0), luck.choice((1, 3, 32)))
                    disk = work._disk
                    store = Store(work, manner)
                    self.check(work, dicts.meaning())
            if manner == "ringless":
                self.assertIsNot(order(bare(work.kept(), 32)), None)
        self.assertGreater(refused, 5)

    def check_left(self, left, history, room):
        """Opens what a crash has left; the store then means the finished store deeds, and opening once more writes nothing."""
        expected = meaning_at(history, last_end(left))
        work = opened(left, room)
        self.check(work, expected)
        writes = left.writes()
        self.check(opened(left, 32), expected)
        self.assertEqual(left.writes(), writes)
        return work

    def crash_while_opening(self, luck, left, history, most):
        """Falls at some writes of opening (at all of them if there are few), and opens what that leaves."""
        whole = left.fell(0)
        opened(whole)
        fuses = range(whole.writes())
        for fuse in sorted(luck.sample(fuses, min(most, len(fuses)))):
            again = left.fell(0, fuse)
            with self.assertRaises(Fallen):
                opened(again, luck.choice((1, 32)))
            self.assertEqual(again.writes(), fuse)
            third = again.fell(luck.randint(0, len(again.tape()) - again.safe()))
            self.check_left(third, history, luck.choice((1, 3, 32)))

    def film(self, seed, manner, room, turns):
        luck = chance(seed)
        history = []
        disk = Film(history)
        work = opened(disk, room)
        self.turns(luck, work, Store(work, manner), Dicts(), history, turns)
        return disk, history

    def turns(self, luck, work, store, dicts, history, many):
        self.fill(luck, work, store, dicts, history)
        for turn in range(many):
            self.step(luck, work, store, dicts, history, ("grow", "mixed", "grow", "shrink")[turn // 5 % 4])
            if luck.random() < 0.5:
                self.write(luck, work, store._manner)

    def fill(self, luck, work, store, dicts, history):
        """A table with so many rows that there are branches, and a snapshot that shares its pages."""
        width = luck.choice((1, 2))
        names = luck.sample(self.NAMES, luck.randint(15, 33))
        deeds = [("make", "a", width, 400)] + [("put", "a", name, (luck.randint(-99, 99),) * width) for name in names]
        for first in range(0, len(deeds), 10):
            self.finish(work, store, dicts, history, deeds[first:first + 10])
            self.write(luck, work, store._manner)
        self.finish(work, store, dicts, history, [("snap", "a", "x")])

    def finish(self, work, store, dicts, history, deeds):
        """Store deeds that are not refused."""
        store.do_all(tuple(deeds))
        for deed in deeds:
            self.assertIs(dicts.do(deed), None)
        history.append((work.roll()[-1][0], dicts.meaning()))

    def test_falls_at_each_write(self):
        pictures = 0
        for seed, manner in enumerate(MANNERS * 4):
            luck = chance(seed + 100)
            disk, history = self.film(seed, manner, (32, 2, 5, 1)[seed // 2], 30)
            for text, finished in disk.pictures:
                picture = read_disk(text)
                unsafe = len(picture.tape()) - picture.safe()
                for keep in sorted({0, luck.randint(0, unsafe), unsafe}):
                    left = picture.fell(keep)
                    self.check_left(left.fell(0), history[:finished], luck.choice((1, 2, 32)))
                    self.crash_while_opening(luck, left, history[:finished], 2)
                pictures += 1
        self.assertGreater(pictures, 300)

    def test_falls_at_each_write_of_opening(self):
        for seed, manner in enumerate(MANNERS * 2):
            luck = chance(seed + 200)
            disk, history = self.film(seed + 20, manner, (3, 32)[seed // 2], 16)
            for text, finished in disk.pictures[-30::4]:
                picture = read_disk(text)
                for keep in {0, len(picture.tape()) - picture.safe()}:
                    self.crash_while_opening(luck, picture.fell(keep), history[:finished], 1000)

    def test_falls_with_trees_of_three_levels(self):
        for seed, manner in enumerate(MANNERS):
            luck = chance(seed + 400)
            history = []
            disk = Film(history)
            work = opened(disk, 4)
            store, dicts = Store(work, manner), Dicts()
            names = [f"n{n:03}" for n in range(110)]
            self.finish(work, store, dicts, history, [("make", "a", 2, 400)])
            for first in range(0, 110, 10):
                self.finish(work, store, dicts, history, [("put", "a", name, (luck.randint(-99, 99), 1)) for name in names[first:first + 10]])
                work.checkpoint()
            start = len(disk.pictures)
            self.finish(work, store, dicts, history, [("snap", "a", "x"), ("put", "a", "n005x", (7, 7)), ("drop", "a", "n070")])
            self.assertEqual([value[1] for _, value in store.view()[0]], [2, 2])
            for name in names[:14] + names[60:66]:
                self.finish(work, store, dicts, history, [("drop", "a", name)] if name != "n070" else [])
                self.write(luck, work, manner)
            self.assertGreater(len(disk.pictures), start + 30)
            for text, finished in disk.pictures[start::7]:
                picture = read_disk(text)
                for keep in {0, len(picture.tape()) - picture.safe()}:
                    left = picture.fell(keep)
                    self.check_left(left.fell(0), history[:finished], luck.choice((1, 32)))
                    self.crash_while_opening(luck, left, history[:finished], 2)

    def test_a_disk_that_falls_under_the_store(self):
        """The same as the pictures tell, with a fuse; what was finished, but not safe, may be lost."""
        for seed, manner in enumerate(MANNERS * 2):
            film, _ = self.film(seed, manner, (2, 32)[seed // 2], 16)
            for fuse in range(0, len(film.pictures), 3):
                luck, history = chance(seed), []
                disk = Disk(fuse)
                work = opened(disk, (2, 32)[seed // 2])
                store, dicts = Store(work, manner), Dicts()
                with self.assertRaises(Fallen):
                    self.turns(luck, work, store, dicts, history, 16)
                for keep in {0, len(disk.tape()) - disk.safe()}:
                    self.check_left(disk.fell(keep), history, 32)

    def test_one_crash_behind_another(self):
        for seed, manner in enumerate(MANNERS * 4):
            luck = chance(seed + 300)
            disk = Disk(luck.randint(0, 40))
            history, crashes = [], 0
            while crashes < 8:
                try:
                    work = opened(disk, luck.choice((1, 2, 4, 32)))
                    last = last_end(disk)
                    history = [(number, told) for number, told in history if number <= last]
                    self.check(work, meaning_at(history, last))
                    dicts = Dicts({source: (width, most, dict(rows)) for source, width, most, rows in meaning(tuple(pages_of(work)))})
                    store = Store(work, manner)
                    while True:
                        self.step(luck, work, store, dicts, history)
                        if luck.random() < 0.6:
                            self.write(luck, work, manner)
                except Fallen:
                    crashes += 1
                    disk = disk.fell(luck.randint(0, len(disk.tape()) - disk.safe()), luck.randint(0, 40))

    def test_a_spoilt_frame(self):
        seen = {"mended": 0, "wounded": 0}
        for seed, manner in enumerate(MANNERS * 3):
            luck = chance(seed + 500)
            disk, history = self.film(seed + 40, manner, (32, 3, 1)[seed // 2], 10)
            for text, finished in luck.sample(disk.pictures, min(12, len(disk.pictures))):
                picture = read_disk(text)
                left = picture.fell(len(picture.tape()) - picture.safe())
                for page in left.frame_ids():
                    hurt = left.fell(0)
                    place = luck.randrange(len(left.frame(page)))
                    hurt.spoil_frame(page, place, "q" if left.frame(page)[place] != "q" else "r")
                    before = disk_text(hurt)
                    try:
                        work = opened(hurt)
                    except Wounded as error:
                        self.assertIn(page, error.what)
                        self.assertEqual((disk_text(hurt), hurt.writes()), (before, 0))
                        seen["wounded"] += 1
                        continue
                    self.check(work, meaning_at(history[:finished], last_end(left)))
                    seen["mended"] += 1
        self.assertGreater(min(seen.values()), 30)

    def test_two_stores_side_by_side(self):
        """Two stores on two disks, called in turn, are what each of them is alone."""
        lucks = [chance(seed) for seed in (600, 601)]
        disks = [Disk(), Disk()]
        works = [opened(disks[0], 2), opened(disks[1], 32)]
        stores = [Store(work, manner) for work, manner in zip(works, MANNERS)]
        dicts, histories = [Dicts(), Dicts()], [[], []]
        for turn in range(40):
            for which in (0, 1):
                self.turns_of(turn, lucks[which], works[which], stores[which], dicts[which], histories[which])
        for which, seed in enumerate((600, 601)):
            luck, disk, history = chance(seed), Disk(), []
            work = opened(disk, (2, 32)[which])
            store, told = Store(work, MANNERS[which]), Dicts()
            for turn in range(40):
                self.turns_of(turn, luck, work, store, told, history)
            self.assertEqual((disk_text(disk), work.roll(), history), (disk_text(disks[which]), works[which].roll(), histories[which]))
            self.check(works[which], told.meaning())

    def turns_of(self, turn, luck, work, store, dicts, history):
        if turn == 0:
            self.fill(luck, work, store, dicts, history)
        self.step(luck, work, store, dicts, history)
        self.write(luck, work, store._manner)

    def test_a_store_that_is_written_down_and_read_again(self):
        for seed, manner in enumerate(MANNERS):
            luck, history = chance(seed + 700), []
            work = opened(Disk())
            store, dicts = Store(work, manner), Dicts()
            self.turns(luck, work, store, dicts, history, 20)
            text = store_text(store.view())
            fresh = opened(Disk())
            other = Store(fresh, manner)
            for deed in read_store(text):
                other.do(deed)
                if len(fresh.kept()) > 200:
                    fresh.checkpoint()
            self.assertEqual(meaning(other.view()), dicts.meaning())
            self.assertEqual(store_text(other.view()), text)

    def test_the_past_of_a_store(self):
        """Behind each store deed that the log keeps the store means what it meant then."""
        for seed, manner in enumerate(MANNERS):
            luck, history = chance(seed + 800), []
            disk = Disk()
            work = opened(disk, 3)
            store, dicts = Store(work, manner), Dicts()
            self.fill(luck, work, store, dicts, history)
            for _ in range(12):
                self.step(luck, work, store, dicts, history)
            work.sync_log()
            told = dict(history)
            self.assertGreater(len(past_works(work)), 5)
            for number, moment in past_works(work):
                view = tuple(past(disk, page, moment) for page in range(32))
                self.assertEqual(meaning(view), told[number])


if __name__ == "__main__":
    unittest.main()

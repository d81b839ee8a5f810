import unittest

from samples import chance, some_deed
from wendleaf.deeds import inverse
from wendleaf.disk import Disk
from wendleaf.logread import deeds_of, live_of
from wendleaf.losers import backs_of, begin_moment
from wendleaf.opening import opened

FIRST = (0, "head", (0,) * 32)
HEAD = (7, "head", (7,) * 32)
PUT = ("put", 0, "k", None, (5,))
TAKE = ("take", 1, 0, None, None)
BUMP = ("bump", 0, "k", 0, 1)


class Losers(unittest.TestCase):
    def check(self, roll, moment, backs):
        self.assertEqual(begin_moment(roll), moment)
        self.assertEqual(backs_of(roll), backs)

    def test_no_open_work(self):
        self.check((FIRST,), 0, ())
        self.check((HEAD,), 0, ())
        done = (FIRST, (1, "begin", None), (2, "deed", PUT), (3, "deed", TAKE), (4, "back", (3, inverse(TAKE))), (5, "end", None))
        self.check(done, 3, ())
        self.check(done + ((6, "begin", None), (7, "end", None)), 3, ())

    def test_an_open_work(self):
        self.check((FIRST, (1, "begin", None)), 0, ())
        roll = (HEAD, (8, "begin", None), (9, "deed", PUT), (10, "deed", TAKE), (11, "deed", BUMP))
        self.check(roll, 0, ((11, inverse(BUMP)), (10, inverse(TAKE)), (9, inverse(PUT))))
        done = (HEAD, (8, "begin", None), (9, "deed", PUT), (10, "end", None))
        self.check(done + ((11, "begin", None),), 1, ())
        self.check(done + ((11, "begin", None), (12, "deed", TAKE)), 1, ((12, inverse(TAKE)),))

    def test_an_open_work_with_backs(self):
        roll = (FIRST, (1, "begin", None), (2, "deed", PUT), (3, "deed", TAKE), (4, "back", (3, inverse(TAKE))))
        self.check(roll, 0, ((2, inverse(PUT)),))
        self.check(roll + ((5, "deed", BUMP),), 0, ((5, inverse(BUMP)), (2, inverse(PUT))))
        self.check(roll + ((5, "back", (2, inverse(PUT))),), 0, ())

    def test_they_are_what_giving_up_appends(self):
        luck = chance(91)
        for _ in range(40):
            work = opened(Disk())
            for _ in range(luck.randint(0, 3)):
                work.begin()
                for _ in range(luck.randint(0, 5)):
                    work.do(some_deed(luck, work.page))
                work.end()
            ahead = len(work.kept())
            self.check(work.roll(), ahead, ())
            work.begin()
            for _ in range(luck.randint(0, 6)):
                work.do(some_deed(luck, work.page))
            roll = work.roll()
            self.assertEqual(begin_moment(roll), ahead)
            self.assertEqual(backs_of(roll), tuple((number, inverse(deed)) for number, deed in reversed(live_of(roll))))
            work.give_up()
            appended = tuple(part for _, mark, part in work.roll()[len(roll):] if mark == "back")
            self.assertEqual(appended, backs_of(roll))
            self.assertEqual(len(work.roll()), len(roll) + len(appended) + 1)
            self.check(work.roll(), len(deeds_of(work.roll())), ())


if __name__ == "__main__":
    unittest.main()

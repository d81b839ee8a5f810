import itertools
import unittest

from samples import THINGS, chance, some_image, some_log
from wendleaf.known import known
from wendleaf.worlds import worlds, worlds_right

LOG = (3, ((0, ()), (1, (0,)), (0, ()), (2, (1,))))
RING = (2, ((0, (1,)), (1, (0,))))


def contents(log, lots, paper):
    """The contents of all versions in the second world."""
    told = [[0 if lot is not None and lot[0] == 0 else 1] for lot in lots]
    for (page, _), entry in zip(log[1], paper):
        told[page].append(told[page][-1] if entry is None else (told[page][-1] + told[entry][-1]) % 2)
    return told


def shows(log, image, paper, page, k):
    told = contents(log, known(log, image), paper)
    agree = all(told[other][entry] == 0 for other, entry in enumerate(image) if entry is not None)
    return agree and told[page][k] == 1


class Worlds(unittest.TestCase):
    def test_examples(self):
        self.assertEqual(worlds(RING, (0, 1)), (1, 0))
        self.assertIs(worlds_right(RING, (0, 1), (1, 0), 0, 1), True)
        self.assertIs(worlds_right(RING, (0, 1), (1, 0), 1, 1), False)

    def test_all_known(self):
        self.assertEqual(worlds(LOG, (2, 0, 0)), (None,) * 4)
        for page, newest in ((0, 2), (1, 1), (2, 1)):
            for k in range(newest + 1):
                self.assertIs(worlds_right(LOG, (2, 0, 0), (None,) * 4, page, k), False)

    def test_lost_pages(self):
        self.assertEqual(worlds(LOG, (None, 0, 0)), (None, 0, None, 1))
        self.assertEqual(worlds(LOG, (2, None, 0)), (None, None, None, 1))
        self.assertEqual(worlds((1, ((0, ()),)), (None,)), (None,))
        self.assertEqual(worlds((2, ()), (0, None)), ())

    def test_the_smallest_page_that_is_not_known(self):
        log = (4, ((3, (0, 1, 2)),))
        self.assertEqual(worlds(log, (0, None, None, 0)), (1,))
        self.assertEqual(worlds(log, (None, 0, None, 1)), (0,))
        self.assertEqual(worlds(log, (0, 0, None, 0)), (2,))
        self.assertEqual(worlds(log, (0, 0, 0, 0)), (None,))

    def test_the_worlds_agree_on_what_is_known_and_nowhere_else(self):
        luck = chance(10)
        unknown = 0
        for count in range(500):
            log = some_log(luck, 5, 14)
            image = some_image(luck, log, (0.0, 0.2)[count % 2])
            lots, paper = known(log, image), worlds(log, image)
            for page, told in enumerate(contents(log, lots, paper)):
                lot = lots[page]
                for k, content in enumerate(told):
                    is_known = lot is not None and lot[0] <= k <= lot[1]
                    self.assertEqual(content == 0, is_known)
                    self.assertIs(worlds_right(log, image, paper, page, k), not is_known)
                    unknown += not is_known
        self.assertGreater(unknown, 500)


class Judging(unittest.TestCase):
    def test_all_papers(self):
        luck = chance(11)
        right = others = 0
        for _ in range(60):
            log = some_log(luck, 3, 5)
            image = some_image(luck, log, 0.15)
            own = worlds(log, image)
            for paper in itertools.product(*((None,) + reads for _, reads in log[1])):
                for page in range(log[0]):
                    for k in range(sum(1 for deed in log[1] if deed[0] == page) + 1):
                        expected = shows(log, image, paper, page, k)
                        self.assertIs(worlds_right(log, image, paper, page, k), expected)
                        right += expected
                        others += expected and paper != own
        self.assertGreater(right, 100)
        self.assertGreater(others, 50)

    def test_another_paper_of_a_lost_page(self):
        log = (3, ((1, (0, 2)),))
        self.assertEqual(worlds(log, (None, 0, None)), (0,))
        self.assertIs(worlds_right(log, (None, 0, None), (2,), 1, 1), True)
        self.assertIs(worlds_right(log, (None, 0, None), (0,), 1, 1), True)
        self.assertIs(worlds_right(log, (None, 0, None), (None,), 1, 1), False)
        self.assertIs(worlds_right(log, (None, 1, None), (None,), 1, 0), False)
        self.assertIs(worlds_right(log, (None, 1, None), (0,), 1, 0), True)

    def test_papers_of_another_form(self):
        for paper in ((), (1,), (1, 0, None), (0, 0), (1, 1), (True, 0), (1, False), (2, 0), (-1, 0), ("1", 0), ((1,), 0), None, 1,
                      "10"):
            self.assertIs(worlds_right(RING, (0, 1), paper, 0, 1), False, paper)

    def test_pages_and_versions_that_are_not_there(self):
        self.assertTrue(worlds_right(RING, (0, 1), (1, 0), 1, 0))
        for x, k in ((-1, 0), (-1, 1), (2, 0), (0, -1), (0, 2), (1, 2), (True, 0), (1, False), (False, 1), (0, True), (None, 0), (1, None),
                     ("1", 0), (1, "0"), ((), ())):
            self.assertIs(worlds_right(RING, (0, 1), (1, 0), x, k), False, (x, k))

    def test_logs_and_images_of_another_form(self):
        self.assertIs(worlds_right((33, ()), (None,) * 33, (), 0, 0), False)
        self.assertIs(worlds_right(RING, (0, 2), (1, 0), 0, 1), False)
        self.assertIs(worlds_right(RING, (0,), (1, 0), 0, 1), False)
        self.assertIs(worlds_right(RING, (False, True), (1, 0), 0, 1), False)
        self.assertIs(worlds_right((2, ((0, (1,)), (1, (1,)))), (0, 1), (1, 1), 0, 1), False)
        right = (RING, (0, 1), (1, 0), 0, 1)
        for thing in THINGS:
            for index in range(5):
                asked = right[:index] + (thing,) + right[index + 1:]
                self.assertIn(worlds_right(*asked), (True, False))
            for other in (None, (), 1):
                self.assertIs(worlds_right(thing, other, thing, other, thing), False)


if __name__ == "__main__":
    unittest.main()

import itertools
import unittest

from samples import BAD_LOGS, THINGS, chance, refusal, some_image, some_log, version_at_moment
from wendleaf.plans import mendable
from wendleaf.rings import order, ring, ring_image, ring_right

RING = (2, ((0, (1,)), (1, (0,))))
# Two rings of two pages that share page 1, one of three pages, and a page beside them.
MANY = (5, ((0, (1,)), (1, (0, 2)), (2, (1,)), (2, (0,)), (0, (1,)), (4, (0,)), (1, (2,))))


def depends(log):
    return {(page, read) for page, reads in log[1] for read in reads}


def all_rings(log):
    """The page tuples of all rings, begun at every page."""
    needs = depends(log)
    for length in range(2, log[0] + 1):
        for pages in itertools.permutations(range(log[0]), length):
            if all((page, read) in needs for page, read in zip(pages, pages[1:] + pages[:1])):
                yield pages


def plain_ring(log):
    """Straight by the words of point 11."""
    begun = [pages for pages in all_rings(log) if pages[0] == min(pages)]
    if not begun:
        return None
    pages = min(begun, key=lambda pages: (len(pages), pages))
    pairs = []
    for page, read in zip(pages, pages[1:] + pages[:1]):
        pairs.append((page, min(t for t, deed in enumerate(log[1], start=1) if deed[0] == page and read in deed[1])))
    return tuple(pairs)


def plain_right(log, thing):
    """Straight by the words of point 11, for a tuple of pairs of numbers."""
    pages = [page for page, _ in thing]
    if len(thing) < 2 or len(set(pages)) != len(pages):
        return False
    for (page, t), (read, _) in zip(thing, thing[1:] + thing[:1]):
        if not 1 <= t <= len(log[1]) or log[1][t - 1][0] != page or read not in log[1][t - 1][1]:
            return False
    return True


class Order(unittest.TestCase):
    def test_examples(self):
        self.assertIs(order(RING), None)
        self.assertEqual(order((3, ((0, (2,)), (1, (0,))))), (2, 0, 1))

    def test_pages_without_deeds(self):
        self.assertEqual(order((4, ())), (0, 1, 2, 3))
        self.assertEqual(order((32, ())), tuple(range(32)))
        self.assertEqual(order((1, ((0, ()),))), (0,))

    def test_the_smallest_page_that_is_ready_comes_next(self):
        self.assertEqual(order((5, ((0, (4,)), (1, (3,)), (2, ())))), (2, 3, 1, 4, 0))
        self.assertEqual(order((4, ((0, (1, 2)), (1, (3,)), (2, (3,))))), (3, 1, 2, 0))
        self.assertEqual(order((32, tuple((page, (page + 1,)) for page in range(31)))), tuple(range(31, -1, -1)))

    def test_by_the_words_of_the_document(self):
        luck = chance(30)
        tally = {True: 0, False: 0}
        for count in range(500):
            log = some_log(luck, 6, 9, ringless=count % 4 == 0)
            listed = []
            while True:
                ready = [page for page in range(log[0]) if page not in listed
                         and all(read in listed for other, read in depends(log) if other == page)]
                if not ready:
                    break
                listed.append(ready[0])
            expected = tuple(listed) if len(listed) == log[0] else None
            self.assertEqual(order(log), expected)
            self.assertIs(ring(log) is None, expected is not None)
            tally[expected is None] += 1
        self.assertGreater(min(tally.values()), 100)


class Ring(unittest.TestCase):
    def test_examples(self):
        self.assertEqual(ring(RING), ((0, 1), (1, 2)))
        self.assertEqual(ring_image(RING), (0, 1))

    def test_no_ring(self):
        for log in ((1, ()), (32, ()), (3, ((0, (2,)), (1, (0,)), (1, (2,))))):
            self.assertIs(ring(log), None)
            self.assertEqual(refusal(ring_image, log), ("NoRing", 0))

    def test_the_shortest_ring_before_the_smaller_one(self):
        log = (5, ((0, (1,)), (1, (2,)), (2, (0,)), (3, (4,)), (4, (3,))))
        self.assertEqual(ring(log), ((3, 4), (4, 5)))

    def test_the_least_of_several(self):
        self.assertEqual(ring(MANY), ((0, 1), (1, 2)))
        log = (4, ((3, (2,)), (2, (3,)), (2, (1,)), (1, (2,))))
        self.assertEqual(ring(log), ((1, 4), (2, 3)))
        log = (6, ((0, (3,)), (3, (4,)), (4, (0,)), (0, (2,)), (2, (5,)), (5, (0,))))
        self.assertEqual(ring(log), ((0, 4), (2, 5), (5, 6)))
        log = (5, ((0, (1,)), (1, (4, 3)[::-1]), (4, (0,)), (3, (0,))))
        self.assertEqual(ring(log), ((0, 1), (1, 2), (3, 4)))

    def test_it_starts_at_its_smallest_page(self):
        log = (4, ((3, (1,)), (2, (3,)), (1, (2,))))
        self.assertEqual(ring(log), ((1, 3), (2, 2), (3, 1)))

    def test_the_least_deed_of_each_page(self):
        log = (3, ((0, (2,)), (0, (1, 2)), (0, (1,)), (1, (2,)), (1, ()), (1, (0, 2)), (1, (0,))))
        self.assertEqual(ring(log), ((0, 2), (1, 6)))

    def test_a_ring_of_all_pages(self):
        log = (32, tuple((page, ((page + 5) % 32,)) for page in range(32)))
        self.assertEqual(ring(log), tuple(((5 * n) % 32, (5 * n) % 32 + 1) for n in range(32)))

    def test_by_the_words_of_the_document(self):
        luck = chance(31)
        lengths = {}
        for count in range(600):
            log = some_log(luck, 5, 9)
            if count % 2 == 1:
                # Each page reads one of the next two pages only, so that rings are longer.
                log = (5, tuple((page, ((page + 1 + luck.randrange(2)) % 5,)) for page in luck.choices(range(5), k=8)))
            expected = plain_ring(log)
            self.assertEqual(ring(log), expected)
            lengths[expected and len(expected)] = lengths.get(expected and len(expected), 0) + 1
        self.assertGreater(lengths[2], 100)
        self.assertGreater(lengths[3], 10)


class Image(unittest.TestCase):
    def test_versions_beside_the_deeds(self):
        log = (4, ((3, ()), (1, (0,)), (1, ()), (0, (1,)), (0, ())))
        self.assertEqual(ring(log), ((0, 4), (1, 2)))
        self.assertEqual(ring_image(log), (1, 0, 0, 0))
        log = (3, ((0, ()), (0, (2,)), (2, ()), (2, (0,))))
        self.assertEqual(ring_image(log), (1, 0, 2))

    def test_it_is_not_mendable(self):
        luck = chance(32)
        rings = 0
        for _ in range(400):
            log = some_log(luck, 6, 14)
            pairs = ring(log)
            if pairs is None:
                self.assertEqual(refusal(ring_image, log), ("NoRing", 0))
                self.assertIs(mendable(log, some_image(luck, log)), True)
                continue
            expected = [0] * log[0]
            for (_, t), (page, u) in zip(pairs, pairs[1:] + pairs[:1]):
                expected[page] = version_at_moment(log, page, u - 1 if u < t else u)
            self.assertEqual(ring_image(log), tuple(expected))
            self.assertIs(mendable(log, ring_image(log)), False)
            rings += 1
        self.assertGreater(rings, 150)


class Judging(unittest.TestCase):
    def test_right_rings(self):
        for thing in (((0, 1), (1, 2)), ((1, 2), (0, 1)), ((0, 5), (1, 2)), ((1, 7), (2, 3)), ((2, 3), (1, 2)),
                      ((0, 1), (1, 7), (2, 4)), ((1, 2), (2, 4), (0, 5)), ((2, 4), (0, 1), (1, 7))):
            self.assertIs(ring_right(MANY, thing), True, thing)

    def test_wrong_rings(self):
        for thing in (((0, 1),), ((0, 1), (2, 3)), ((1, 7), (0, 1)), ((0, 1), (1, 2), (0, 5), (1, 7)), ((0, 1), (1, 2), (2, 3), (1, 7)),
                      ((0, 1), (2, 4), (1, 2)), ((4, 6), (0, 1), (1, 2)), ((4, 6), (0, 1)), ((0, 2), (1, 2)), ((1, 1), (0, 2)),
                      ((0, 0), (1, 2)), ((0, 8), (1, 2)), ((0, -1), (1, 2)), ((0, 1), (1, -6)), ((0, 1), (5, 2))):
            self.assertIs(ring_right(MANY, thing), False, thing)
        self.assertIs(ring_right((3, ((0, (1,)), (1, (0,)))), ((1, 2), (0, 1), (1, 2), (0, 1))), False)

    def test_turned_cut_and_joined(self):
        log = (4, ((0, (1,)), (1, (2,)), (2, (3,)), (3, (0,)), (2, (0,))))
        whole = ((0, 1), (1, 2), (2, 3), (3, 4))
        for turn in range(4):
            self.assertIs(ring_right(log, whole[turn:] + whole[:turn]), True)
            self.assertIs(ring_right(log, whole[turn:] + whole[:turn] + whole[turn:] + whole[:turn]), False)
            self.assertIs(ring_right(log, (whole[turn:] + whole[:turn])[1:]), False)
            self.assertIs(ring_right(log, (whole[turn:] + whole[:turn])[::-1]), False)
        self.assertIs(ring_right(log, ((0, 1), (1, 2), (2, 5))), True)
        self.assertIs(ring_right(log, ((0, 1), (1, 2), (2, 5), (3, 4))), False)

    def test_all_small_things(self):
        luck = chance(33)
        right = 0
        for _ in range(60):
            log = some_log(luck, 3, 5)
            pairs = [(page, t) for page in range(-1, log[0] + 1) for t in range(len(log[1]) + 2)]
            for length in range(4):
                for thing in itertools.product(pairs, repeat=length) if length < 3 else itertools.permutations(pairs[::2], 3):
                    expected = plain_right(log, thing)
                    self.assertIs(ring_right(log, thing), expected)
                    right += expected
            found = ring(log)
            if found is not None:
                self.assertIs(ring_right(log, found), True)
        self.assertGreater(right, 30)

    def test_things_of_another_form(self):
        for thing in (None, (), 1, "0112", ((0, 1), (1, True)), ((False, 1), (1, 2)), ((0, 1), (True, 2)), ((0, True), (1, 2)),
                      ((0, 1), None), ((0, 1), (1,)), ((0, 1), (1, 2, 3)), ((0, 1), (1, "2")), ((0, 1), ((1,), 2)), ((0, 1), (1, None)),
                      (((0, 1), (1, 2)),)):
            self.assertIs(ring_right(RING, thing), False, thing)
        for thing in THINGS:
            self.assertIs(ring_right(thing, ((0, 1), (1, 2))), False)
            self.assertIs(ring_right(RING, thing), False)
            self.assertIs(ring_right(RING, (thing, (1, 2))), False)
            self.assertIs(ring_right(RING, ((0, 1), (thing, 2))), thing == 1 and thing is not True)
            self.assertIs(ring_right(RING, ((0, 1), (1, thing))), thing == 2 and thing is not True)
        self.assertIs(ring_right((33, RING[1]), ((0, 1), (1, 2))), False)

    def test_bad_logs(self):
        for thing, what in BAD_LOGS:
            for call in (order, ring, ring_image):
                self.assertEqual(refusal(call, thing), ("BadLog", what))
            self.assertIs(ring_right(thing, ()), False)
        for call in (order, ring, ring_image):
            self.assertEqual(refusal(call, (33, ())), ("TooMany", 33))


if __name__ == "__main__":
    unittest.main()

import unittest

from samples import chance, some_image, some_log
from wendleaf.known import grown, known

LOG = (3, ((0, ()), (1, (0,)), (0, ()), (2, (1,))))
RING = (2, ((0, (1,)), (1, (0,))))


def version(log, page, moment):
    return sum(1 for deed in log[1][:moment] if deed[0] == page)


def plain_lots(log, image):
    """The lots as sets and the growths, straight by the words of point 8."""
    lots = [set() if entry is None else {entry} for entry in image]
    growths = []
    while True:
        possible = []
        for t, (page, reads) in enumerate(log[1], start=1):
            before, after = version(log, page, t - 1), version(log, page, t)
            if all(version(log, read, t) in lots[read] for read in reads):
                if before in lots[page] and after not in lots[page]:
                    possible.append((t, 1, page, after))
                if after in lots[page] and before not in lots[page]:
                    possible.append((t, -1, page, before))
        if not possible:
            return lots, tuple(growths)
        t, way, page, added = min(possible)
        lots[page].add(added)
        growths.append((t, way))


class Known(unittest.TestCase):
    def test_examples(self):
        self.assertEqual(grown(LOG, (2, 0, 0)), ((3, -1), (1, -1), (2, 1), (4, 1)))
        self.assertEqual(known(LOG, (2, 0, 0)), ((0, 2), (0, 1), (0, 1)))
        self.assertEqual(known(RING, (0, 1)), ((0, 0), (1, 1)))
        self.assertEqual(grown(RING, (0, 1)), ())

    def test_no_deeds(self):
        self.assertEqual(known((2, ()), (0, None)), ((0, 0), None))
        self.assertEqual(grown((2, ()), (0, None)), ())

    def test_lost_pages(self):
        self.assertEqual(known(LOG, (None, 0, 0)), (None, (0, 0), (0, 0)))
        self.assertEqual(known(LOG, (None, 1, 0)), (None, (1, 1), (0, 1)))
        self.assertEqual(known(LOG, (0, None, 1)), ((0, 2), None, (1, 1)))
        self.assertEqual(known(LOG, (None, None, None)), (None, None, None))

    def test_a_ring_that_can_be_led_to_the_end(self):
        self.assertEqual(known(RING, (0, 0)), ((0, 1), (0, 1)))
        self.assertEqual(grown(RING, (0, 0)), ((1, 1), (2, 1)))
        self.assertEqual(known(RING, (1, 1)), ((0, 1), (0, 1)))
        self.assertEqual(grown(RING, (1, 1)), ((2, -1), (1, -1)))

    def test_the_smallest_deed_grows_first(self):
        log = (3, ((0, ()), (1, ()), (2, ()), (0, ()), (1, ())))
        self.assertEqual(grown(log, (0, 0, 0)), ((1, 1), (2, 1), (3, 1), (4, 1), (5, 1)))
        self.assertEqual(grown(log, (2, 2, 1)), ((2 + 1, -1), (4, -1), (1, -1), (5, -1), (2, -1)))
        self.assertEqual(grown(log, (2, 0, 1)), ((2, 1), (3, -1), (4, -1), (1, -1), (5, 1)))
        self.assertEqual(grown(log, (1, 1, 0)), ((1, -1), (2, -1), (3, 1), (4, 1), (5, 1)))

    def test_a_growth_of_a_smaller_deed_can_become_possible_later(self):
        log = (3, ((0, (1,)), (2, ()), (1, ())))
        self.assertEqual(grown(log, (0, 1, 0)), ((2, 1), (3, -1), (1, 1)))

    def test_by_the_words_of_the_document(self):
        luck = chance(8)
        rings = losses = 0
        for count in range(700):
            log = some_log(luck, 5, 14, ringless=count % 3 == 0)
            image = some_image(luck, log, (0.0, 0.15)[count % 2])
            lots, growths = plain_lots(log, image)
            self.assertEqual(grown(log, image), growths)
            expected = tuple((min(lot), max(lot)) if lot else None for lot in lots)
            self.assertEqual(known(log, image), expected)
            self.assertEqual([len(lot) for lot in lots], [0 if lot is None else lot[1] - lot[0] + 1 for lot in expected])
            losses += None in image
            rings += None not in image and any(lot[1] < version(log, page, len(log[1])) for page, lot in enumerate(expected))
        self.assertGreater(losses, 50)
        self.assertGreater(rings, 30)

    def test_the_largest_logs(self):
        luck = chance(9)
        log = (32, tuple((n % 32, tuple(sorted(luck.sample([p for p in range(32) if p != n % 32], 4)))) for n in range(400)))
        self.assertEqual(len(grown(log, (0,) * 32)), 400)
        self.assertEqual(known(log, (0,) * 32), tuple((0, 13 if page < 16 else 12) for page in range(32)))


if __name__ == "__main__":
    unittest.main()

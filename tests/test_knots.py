import itertools
import unittest

from samples import BAD_LOGS, THINGS, chance, refusal, some_image, some_log, version_at_moment
from wendleaf.knots import knots, may_write, written
from wendleaf.plans import mendable

LOG = (2, ((1, (0,)), (0, (1,)), (1, (0,)), (0, (1,))))
CHAIN = (3, ((0, ()), (1, (0,)), (0, ()), (2, (1,))))


def plain_knots(log):
    """Straight by the words of point 12."""
    reached = {(page, read) for page, reads in log[1] for read in reads}
    while True:
        more = {(a, d) for a, b in reached for c, d in reached if b == c} - reached
        if not more:
            break
        reached |= more
    knot_of = {page: (page,) for page in range(log[0])}
    for page in range(log[0]):
        knot_of[page] = tuple(other for other in range(log[0])
                              if other == page or ((page, other) in reached and (other, page) in reached))
    return tuple(sorted(set(knot_of.values())))


class Knots(unittest.TestCase):
    def test_examples(self):
        self.assertEqual(knots(LOG), ((0, 1),))
        self.assertIs(may_write(LOG, (0, 0), (0,)), False)
        self.assertIs(may_write(LOG, (0, 0), (1,)), False)
        self.assertIs(may_write(LOG, (0, 0), (0, 1)), True)

    def test_pages_in_no_ring(self):
        self.assertEqual(knots((3, ())), ((0,), (1,), (2,)))
        self.assertEqual(knots(CHAIN), ((0,), (1,), (2,)))

    def test_pages_in_two_rings_that_share_a_page(self):
        self.assertEqual(knots((5, ((4, (2,)), (2, (4,)), (2, (0,)), (0, (2,)), (1, (0, 2)), (0, (3,))))), ((0, 2, 4), (1,), (3,)))

    def test_rings_that_one_arrow_joins(self):
        log = (4, ((0, (3,)), (3, (0,)), (1, (2,)), (2, (1,)), (1, (0,))))
        self.assertEqual(knots(log), ((0, 3), (1, 2)))
        self.assertEqual(knots((4, log[1] + ((3, (2,)),))), ((0, 1, 2, 3),))

    def test_the_order_of_their_smallest_pages(self):
        log = (6, ((5, (0,)), (0, (5,)), (4, (1,)), (1, (4,)), (3, (2,)), (2, (3,))))
        self.assertEqual(knots(log), ((0, 5), (1, 4), (2, 3)))

    def test_all_pages(self):
        log = (32, tuple((page, ((page + 1) % 32,)) for page in range(32)))
        self.assertEqual(knots(log), (tuple(range(32)),))
        self.assertEqual(knots((32, log[1][:-1])), tuple((page,) for page in range(32)))

    def test_by_the_words_of_the_document(self):
        luck = chance(40)
        large = 0
        for count in range(400):
            log = some_log(luck, 7, 10, ringless=count % 5 == 0)
            expected = plain_knots(log)
            self.assertEqual(knots(log), expected)
            large += any(len(knot) > 2 for knot in expected)
            if count % 5 == 0:
                self.assertEqual(len(expected), log[0])
        self.assertGreater(large, 50)


class Writing(unittest.TestCase):
    def test_written(self):
        self.assertEqual(written(CHAIN, (1, 0, 0), ()), (1, 0, 0))
        self.assertEqual(written(CHAIN, (1, 0, 0), (0,)), (2, 0, 0))
        self.assertEqual(written(CHAIN, (1, 0, 0), (1, 2)), (1, 1, 1))
        self.assertEqual(written(CHAIN, (1, 0, 0), (0, 1, 2)), (2, 1, 1))
        self.assertEqual(written(CHAIN, (None, 0, None), (2,)), (None, 0, 1))
        self.assertEqual(written(CHAIN, (None, None, None), (0, 2)), (2, None, 1))
        self.assertEqual(written((32, ()), (None,) * 32, (31,)), (None,) * 31 + (0,))

    def test_may_write(self):
        self.assertIs(may_write(CHAIN, (0, 0, 0), ()), True)
        self.assertIs(may_write(CHAIN, (0, 0, None), ()), False)
        self.assertIs(may_write(CHAIN, (0, 0, None), (2,)), True)
        self.assertIs(may_write(CHAIN, (0, None, None), (2,)), False)
        self.assertIs(may_write(CHAIN, (None, None, None), (0, 1, 2)), True)
        log = (2, ((0, ()), (1, (0,)), (0, (1,))))
        self.assertIs(may_write(log, (0, 0), (0,)), False)
        self.assertIs(may_write(log, (0, 0), (1,)), True)
        self.assertIs(may_write(log, (0, 1), (0,)), True)

    def test_by_chance(self):
        luck = chance(41)
        tally = {True: 0, False: 0}
        for count in range(150):
            log = some_log(luck, 4, 8)
            image = some_image(luck, log, (0.0, 0.2)[count % 2])
            newest = [version_at_moment(log, page, len(log[1])) for page in range(log[0])]
            for many in range(log[0] + 1):
                for lot in itertools.combinations(range(log[0]), many):
                    expected = tuple(newest[page] if page in lot else entry for page, entry in enumerate(image))
                    self.assertEqual(written(log, image, lot), expected)
                    self.assertIs(may_write(log, image, lot), mendable(log, expected))
                    tally[mendable(log, expected)] += 1
        self.assertGreater(min(tally.values()), 200)

    def test_every_knot_of_a_mendable_image_may_be_written(self):
        luck = chance(42)
        refused = 0
        for _ in range(300):
            log = some_log(luck, 5, 12)
            image = some_image(luck, log)
            if not mendable(log, image):
                continue
            for knot in knots(log):
                self.assertIs(may_write(log, image, knot), True)
                refused += sum(not may_write(log, image, (page,)) for page in knot)
        self.assertGreater(refused, 10)

    def test_lots_of_another_form(self):
        for lot in (None, 0, True, "", "0", (1, 0), (0, 0), (0, 1, 1), (2, 1), (-1,), (3,), (0, 3), (0, 1, 2, 3), (True,), (False,),
                    (0, True), (None,), ("0",), ((0,),), (0, None)):
            for call in (written, may_write):
                for image in ((0, 0, 0), (None, 0, 0)):
                    self.assertEqual(refusal(call, CHAIN, image, lot), ("BadLot", -1), lot)
        for thing in THINGS:
            if thing not in ((), (0,)):
                self.assertEqual(refusal(written, CHAIN, (0, 0, 0), thing), ("BadLot", -1))
            self.assertEqual(refusal(written, CHAIN, (0, 0, 0), (thing, 9)), ("BadLot", -1))

    def test_bad_logs_and_images_go_ahead(self):
        for thing, what in BAD_LOGS:
            self.assertEqual(refusal(knots, thing), ("BadLog", what))
            for call in (written, may_write):
                self.assertEqual(refusal(call, thing, None, None), ("BadLog", what))
        self.assertEqual(refusal(knots, (33, ())), ("TooMany", 33))
        for call in (written, may_write):
            self.assertEqual(refusal(call, (33, ()), None, None), ("TooMany", 33))
            self.assertEqual(refusal(call, CHAIN, (0, 0), None), ("BadImage", -1))
            self.assertEqual(refusal(call, CHAIN, (0, 0, 2), None), ("BadImage", 2))


if __name__ == "__main__":
    unittest.main()

import unittest

from samples import BAD_LOGS, chance, refusal, some_image, some_log, version_at_moment
from wendleaf.heads import cut, may_strike, moved_image, struck
from wendleaf.plans import mendable

LOG = (3, ((0, ()), (1, (0,)), (0, ()), (2, (1,))))
RING = (2, ((0, (1,)), (1, (0,))))


def older(log, image, count):
    """The pages that are lost or older, by the words of point 13."""
    return [page for page, entry in enumerate(image) if entry is None or entry < version_at_moment(log, page, count)]


class Striking(unittest.TestCase):
    def test_examples(self):
        self.assertEqual(cut(LOG, (2, 0, 0)), 1)
        self.assertEqual(struck(LOG, 1), (3, ((1, (0,)), (0, ()), (2, (1,)))))
        self.assertEqual(moved_image(LOG, (2, 0, 0), 1), (1, 0, 0))
        self.assertIs(cut(RING, (0, 1)), None)

    def test_struck(self):
        for count in range(5):
            self.assertEqual(struck(LOG, count), (3, LOG[1][count:]))
        self.assertEqual(struck((1, ()), 0), (1, ()))

    def test_moved_image(self):
        self.assertEqual(moved_image(LOG, (2, 1, 1), 0), (2, 1, 1))
        self.assertEqual(moved_image(LOG, (2, 1, 1), 4), (0, 0, 0))
        self.assertEqual(moved_image(LOG, (2, 1, 1), 3), (0, 0, 1))
        self.assertEqual(moved_image(RING, (0, 1), 0), (0, 1))

    def test_older_pages(self):
        self.assertEqual(refusal(moved_image, LOG, (2, 0, 0), 2), ("Older", 1))
        self.assertEqual(refusal(moved_image, LOG, (1, 0, 0), 4), ("Older", 0))
        self.assertEqual(refusal(moved_image, LOG, (2, 1, 0), 4), ("Older", 2))
        self.assertEqual(refusal(moved_image, LOG, (2, None, 0), 0), ("Older", 1))
        self.assertEqual(refusal(moved_image, LOG, (2, 0, None), 2), ("Older", 1))
        self.assertEqual(refusal(moved_image, LOG, (None, 0, None), 2), ("Older", 0))
        self.assertEqual(refusal(moved_image, (2, ()), (0, None), 0), ("Older", 1))

    def test_may_strike(self):
        self.assertEqual([may_strike(LOG, (2, 0, 0), count) for count in range(5)], [True, True, False, False, False])
        self.assertEqual([may_strike(LOG, (2, 1, 1), count) for count in range(5)], [True] * 5)
        self.assertEqual([may_strike(LOG, (2, 1, None), count) for count in range(5)], [False] * 5)
        self.assertEqual([may_strike(RING, (0, 1), count) for count in range(3)], [False] * 3)

    def test_numbers_beyond_both_ends(self):
        for count in (-1, 5, 10 ** 13, True, False, None, "1", ()):
            self.assertEqual(refusal(struck, LOG, count), ("BadNumber", count))
            for image in ((2, 0, 0), (None, 0, 0)):
                self.assertEqual(refusal(moved_image, LOG, image, count), ("BadNumber", count))
                self.assertEqual(refusal(may_strike, LOG, image, count), ("BadNumber", count))

    def test_bad_logs_and_images_go_ahead(self):
        for thing, what in BAD_LOGS:
            self.assertEqual(refusal(struck, thing, None), ("BadLog", what))
            self.assertEqual(refusal(cut, thing, None), ("BadLog", what))
            for call in (moved_image, may_strike):
                self.assertEqual(refusal(call, thing, None, None), ("BadLog", what))
        self.assertEqual(refusal(struck, (33, ()), None), ("TooMany", 33))
        self.assertEqual(refusal(cut, LOG, (0, 0)), ("BadImage", -1))
        self.assertEqual(refusal(cut, LOG, (0, 2, 0)), ("BadImage", 1))
        for call in (moved_image, may_strike):
            self.assertEqual(refusal(call, LOG, (0, 0), None), ("BadImage", -1))
            self.assertEqual(refusal(call, LOG, (0, 2, 0), None), ("BadImage", 1))


class Cut(unittest.TestCase):
    def test_some(self):
        self.assertEqual(cut(LOG, (2, 1, 1)), 4)
        self.assertEqual(cut(LOG, (0, 0, 0)), 0)
        self.assertEqual(cut(LOG, (1, 1, 0)), 2)
        self.assertEqual(cut(LOG, (2, 1, 0)), 3)
        self.assertEqual(cut(LOG, (1, 0, 1)), 1)
        self.assertEqual(cut((4, ()), (0, 0, 0, 0)), 0)
        self.assertIs(cut(LOG, (2, 1, None)), None)
        self.assertIs(cut((1, ()), (None,)), None)

    def test_against_trying_every_number(self):
        luck = chance(50)
        tally = {True: 0, False: 0}
        for count in range(400):
            log = some_log(luck, 4, 10, ringless=count % 3 == 0)
            image = some_image(luck, log, (0.0, 0.1)[count % 2])
            n = len(log[1])
            allowed = [mendable(log, image) and not older(log, image, c) for c in range(n + 1)]
            self.assertEqual([may_strike(log, image, c) for c in range(n + 1)], allowed)
            self.assertEqual(allowed, sorted(allowed, reverse=True))
            self.assertEqual(cut(log, image), sum(allowed) - 1 if mendable(log, image) else None)
            tally[mendable(log, image)] += 1
            for c in range(n + 1):
                pages = older(log, image, c)
                if pages:
                    self.assertEqual(refusal(moved_image, log, image, c), ("Older", pages[0]))
                    continue
                left = tuple(entry - version_at_moment(log, page, c) for page, entry in enumerate(image))
                self.assertEqual(moved_image(log, image, c), left)
                if allowed[c]:
                    self.assertIs(mendable(struck(log, c), left), True)
        self.assertGreater(min(tally.values()), 80)


if __name__ == "__main__":
    unittest.main()

import unittest

from samples import THINGS, chance, refusal, some_image, some_log
from wendleaf.known import known
from wendleaf.moves import move

LOG = (3, ((0, ()), (1, (0,)), (0, ()), (2, (1,))))


class Moves(unittest.TestCase):
    def refused(self, log, image, thing):
        self.assertEqual(refusal(move, log, image, thing), ("NoMove", thing))

    def test_both_ways(self):
        images = ((0, 0, 0), (1, 0, 0), (1, 1, 0), (2, 1, 0), (2, 1, 1))
        for t in range(1, 5):
            self.assertEqual(move(LOG, images[t - 1], (t, 1)), images[t])
            self.assertEqual(move(LOG, images[t], (t, -1)), images[t - 1])
            self.refused(LOG, images[t - 1], (t, -1))
            self.refused(LOG, images[t], (t, 1))

    def test_the_page_must_have_the_version_beside_the_deed(self):
        self.refused(LOG, (2, 0, 0), (1, -1))
        self.refused(LOG, (0, 0, 0), (3, 1))
        self.assertEqual(move(LOG, (2, 0, 0), (3, -1)), (1, 0, 0))
        self.assertEqual(move(LOG, (1, 0, 0), (3, 1)), (2, 0, 0))

    def test_the_pages_read_must_have_their_versions(self):
        for version, allowed in ((0, False), (1, True), (2, False), (None, False)):
            for image, way, after in (((version, 0, 0), 1, (version, 1, 0)), ((version, 1, 0), -1, (version, 0, 0))):
                if allowed:
                    self.assertEqual(move(LOG, image, (2, way)), after)
                else:
                    self.refused(LOG, image, (2, way))
        log = (4, ((0, ()), (3, (0, 1, 2)), (1, ())))
        self.assertEqual(move(log, (1, 0, 0, 0), (2, 1)), (1, 0, 0, 1))
        for image in ((0, 0, 0, 0), (1, 1, 0, 0), (1, 0, None, 0), (1, None, 0, 0)):
            self.refused(log, image, (2, 1))

    def test_lost_pages(self):
        for t, image in ((1, (None, 0, 0)), (2, (1, None, 0)), (2, (None, 0, 0)), (4, (2, 1, None)), (4, (2, None, 0))):
            for way in (1, -1):
                self.refused(LOG, image, (t, way))
        self.assertEqual(move(LOG, (None, 1, 0), (4, 1)), (None, 1, 1))

    def test_things_of_another_form(self):
        for thing in ((0, 1), (5, 1), (0, -1), (5, -1), (-1, 1), (1, 0), (1, 2), (1, -2), (True, 1), (1, True), (1, False), (1, None),
                      (None, 1), (1, "1"), ("1", 1), (1,), (1, 1, 1), (), 1, None, True, "11", ((1, 1),)):
            for image in ((0, 0, 0), (1, 0, 0), (2, 1, 0), (2, 1, 1)):
                self.refused(LOG, image, thing)
        for thing in THINGS:
            if thing != (1, 1):
                self.refused(LOG, (0, 0, 0), thing)
            self.refused((1, ()), (0,), thing)

    def test_bad_logs_and_images_go_ahead(self):
        self.assertEqual(refusal(move, (2, ((0, (0,)),)), None, None), ("BadLog", 1))
        self.assertEqual(refusal(move, None, None, None), ("BadLog", -1))
        self.assertEqual(refusal(move, LOG, (0, 0), None), ("BadImage", -1))
        self.assertEqual(refusal(move, LOG, (0, 0, 5), (0, 1)), ("BadImage", 2))

    def test_moves_of_all_deeds_and_what_is_known(self):
        luck = chance(12)
        moved = 0
        for count in range(300):
            log = some_log(luck, 4, 10)
            image = some_image(luck, log, (0.0, 0.1)[count % 2])
            for t in range(1, len(log[1]) + 1):
                page, reads = log[1][t - 1]
                ready = all(image[read] == sum(1 for deed in log[1][:t] if deed[0] == read) for read in reads)
                before = sum(1 for deed in log[1][:t - 1] if deed[0] == page)
                for way, here, there in ((1, before, before + 1), (-1, before + 1, before)):
                    if not ready or image[page] != here:
                        self.refused(log, image, (t, way))
                        continue
                    after = image[:page] + (there,) + image[page + 1:]
                    self.assertEqual(move(log, image, (t, way)), after)
                    self.assertEqual(move(log, after, (t, -way)), image)
                    self.assertEqual(known(log, after), known(log, image))
                    moved += 1
        self.assertGreater(moved, 300)


if __name__ == "__main__":
    unittest.main()

import unittest

from samples import BAD_LOGS, THINGS, chance, refusal, some_image, some_log
from wendleaf.bare import bare, is_image, is_log, last, made_image, made_log, number_of, version_at
from wendleaf.known import grown, known
from wendleaf.moves import move
from wendleaf.worlds import worlds

LOG = (3, ((0, ()), (1, (0,)), (0, ()), (2, (1,))))
IMAGE = (2, 0, 0)


class Logs(unittest.TestCase):
    def test_right_logs(self):
        full = (32, tuple((n % 32, tuple(page for page in range(32) if page != n % 32)) for n in range(400)))
        for log in (LOG, (1, ()), (32, ()), (1, ((0, ()),) * 400), full):
            self.assertIs(is_log(log), True)
            self.assertEqual(made_log(log), log)

    def test_bad_logs(self):
        for thing, what in BAD_LOGS:
            self.assertEqual(refusal(made_log, thing), ("BadLog", what), thing)
            self.assertIs(is_log(thing), False, thing)

    def test_too_many(self):
        deed = (0, ())
        for thing, many in (((33, ()), 33), ((10 ** 9, (None,)), 10 ** 9), ((33, (deed,) * 401), 33), ((1, (deed,) * 401), 401),
                            ((32, (None,) * 500), 500)):
            self.assertEqual(refusal(made_log, thing), ("TooMany", many))
            self.assertIs(is_log(thing), False)

    def test_the_judges_raise_nothing(self):
        for thing in THINGS:
            for asked in (thing, (thing, ()), (2, thing), (2, (thing,)), (2, ((thing, ()),)), (2, ((0, thing),)), (2, ((0, (thing,)),))):
                if is_log(asked):
                    self.assertEqual(made_log(asked), asked)
                else:
                    self.assertIn(refusal(made_log, asked)[0], ("BadLog", "TooMany"))
                self.assertIs(is_image(asked, None), False)
                self.assertIn(is_image(LOG, asked), (True, False))
                self.assertIn(is_image(LOG, (0, thing, 0)), (True, False))


class Images(unittest.TestCase):
    def test_right_images(self):
        for image in (IMAGE, (0, 0, 0), (2, 1, 1), (None, None, None), (1, None, 1)):
            self.assertIs(is_image(LOG, image), True)
            self.assertEqual(made_image(LOG, image), image)

    def test_bad_images(self):
        for image, what in (
                (None, -1), (1, -1), ("201", -1), ((), -1), ((0, 0), -1), ((0, 0, 0, 0), -1), ((3, 0, 0), 0), ((-1, 0, 0), 0),
                ((0, 2, 0), 1), ((0, 0, 2), 2), ((True, 0, 0), 0), ((0, False, 0), 1), ((0, "0", 0), 1), ((0, (0,), 9), 1),
                ((None, None, 2), 2)):
            self.assertEqual(refusal(made_image, LOG, image), ("BadImage", what), image)
            self.assertIs(is_image(LOG, image), False, image)

    def test_the_log_goes_ahead(self):
        for thing, what in BAD_LOGS:
            self.assertEqual(refusal(made_image, thing, None), ("BadLog", what))
            self.assertIs(is_image(thing, (0, 0)), False)
        self.assertEqual(refusal(made_image, (33, ()), None), ("TooMany", 33))


class Versions(unittest.TestCase):
    def test_last(self):
        self.assertEqual([last(LOG, page) for page in range(3)], [2, 1, 1])
        self.assertEqual(last((1, ()), 0), 0)
        self.assertEqual(last((1, ((0, ()),) * 400), 0), 400)

    def test_number_of(self):
        self.assertEqual(number_of(LOG, 0, 1), 1)
        self.assertEqual(number_of(LOG, 0, 2), 3)
        self.assertEqual(number_of(LOG, 1, 1), 2)
        self.assertEqual(number_of(LOG, 2, 1), 4)
        for version in (0, 3, -1, True, None, "1"):
            self.assertEqual(refusal(number_of, LOG, 0, version), ("BadNumber", version))
        self.assertEqual(refusal(number_of, (1, ()), 0, 0), ("BadNumber", 0))
        self.assertEqual(refusal(number_of, (1, ()), 0, 1), ("BadNumber", 1))

    def test_version_at(self):
        self.assertEqual([version_at(LOG, 0, moment) for moment in range(5)], [0, 1, 1, 2, 2])
        self.assertEqual([version_at(LOG, 1, moment) for moment in range(5)], [0, 0, 1, 1, 1])
        self.assertEqual([version_at(LOG, 2, moment) for moment in range(5)], [0, 0, 0, 0, 1])
        for moment in (-1, 5, True, False, None, "0"):
            self.assertEqual(refusal(version_at, LOG, 0, moment), ("BadNumber", moment))
        self.assertEqual(version_at((1, ()), 0, 0), 0)

    def test_bad_pages_go_ahead_of_bad_numbers(self):
        for page in (-1, 3, True, False, None, "0", (0,)):
            self.assertEqual(refusal(last, LOG, page), ("BadPage", page))
            self.assertEqual(refusal(number_of, LOG, page, 99), ("BadPage", page))
            self.assertEqual(refusal(version_at, LOG, page, 99), ("BadPage", page))

    def test_by_chance(self):
        luck = chance(5)
        for _ in range(100):
            log = some_log(luck, 4, 12)
            for page in range(log[0]):
                numbers = [t for t, deed in enumerate(log[1], start=1) if deed[0] == page]
                self.assertEqual(last(log, page), len(numbers))
                for version, number in enumerate(numbers, start=1):
                    self.assertEqual(number_of(log, page, version), number)
                    self.assertEqual(version_at(log, page, number), version)
                    self.assertEqual(version_at(log, page, number - 1), version - 1)
            image = some_image(luck, log, 0.2)
            self.assertEqual(made_image(log, image), image)


class Order(unittest.TestCase):
    def test_log_then_image_then_others(self):
        of_log = (lambda log: last(log, 99), lambda log: number_of(log, 99, 99), lambda log: version_at(log, 99, 99))
        of_image = (known, grown, worlds, lambda log, image: move(log, image, None))
        for thing, what in BAD_LOGS:
            for call in of_log:
                self.assertEqual(refusal(call, thing), ("BadLog", what))
            for call in of_image:
                self.assertEqual(refusal(call, thing, None), ("BadLog", what))
        for call in of_image:
            self.assertEqual(refusal(call, (33, ()), None), ("TooMany", 33))
            self.assertEqual(refusal(call, LOG, None), ("BadImage", -1))
            self.assertEqual(refusal(call, LOG, (0, 2, 9)), ("BadImage", 1))
            self.assertEqual(refusal(call, LOG, (True, 0, 0)), ("BadImage", 0))


class BareOfDeeds(unittest.TestCase):
    DEEDS = (
        ("put", 0, "k", None, (1,)), ("bump", 1, "k", 0, 1), ("rename", 2, "a", "b"), ("take", 0, 2, None, None),
        ("drop", 1, 0, None, "m"), ("add", 2, "k", 0, 1, "m", 0, 1), ("tally", 2, "k", 0, 0, "a", None, 0, -1),
        ("carry", 1, (), (("a", (1,)),)),
    )

    def test_each_word(self):
        deeds = ((0, ()), (1, ()), (2, ()), (0, (2,)), (1, (0,)), (2, (1,)), (2, (0,)), (1, ()))
        self.assertEqual(bare(self.DEEDS, 3), (3, deeds))
        self.assertEqual(bare(self.DEEDS, 32), (32, deeds))
        self.assertEqual(bare((), 1), (1, ()))

    def test_bad_deeds_go_first(self):
        self.assertEqual(refusal(bare, self.DEEDS[:2] + (("take", 1, 1, None, None), None), 0), ("BadDeed", 2))
        self.assertEqual(refusal(bare, (None,), 99), ("BadDeed", 0))
        self.assertEqual(refusal(bare, (("bump", 0, "k", 0, 0),) * 401, 1), ("BadDeed", 4))

    def test_bad_logs(self):
        self.assertEqual(refusal(bare, self.DEEDS, 2), ("BadLog", 3))
        self.assertEqual(refusal(bare, self.DEEDS[3:], 1), ("BadLog", 1))
        self.assertEqual(refusal(bare, self.DEEDS[3:4], 2), ("BadLog", 1))
        for many in (0, -1, True, None, "3"):
            self.assertEqual(refusal(bare, self.DEEDS, many), ("BadLog", -1))
        self.assertEqual(refusal(bare, self.DEEDS, 33), ("TooMany", 33))
        self.assertEqual(refusal(bare, self.DEEDS[:1] * 401, 3), ("TooMany", 401))
        self.assertEqual(len(bare(self.DEEDS[:1] * 400, 3)[1]), 400)

    def test_examples(self):
        self.assertEqual((number_of(LOG, 0, 2), version_at(LOG, 0, 2), version_at(LOG, 0, 3)), (3, 1, 2))
        self.assertEqual(refusal(made_log, (2, ((0, (1,)), (1, (1,))))), ("BadLog", 2))


if __name__ == "__main__":
    unittest.main()

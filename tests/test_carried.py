import itertools
import unittest

from samples import BAD_LOGS, chance, refusal, some_log
from wendleaf.carried import carried
from wendleaf.rings import order

LOG = (3, ((2, (0,)), (0, (1,)), (1, (0,))))


def sufficient(log, numbers):
    """Whether the log in which these deeds read nothing has no ring."""
    return order((log[0], tuple((page, () if t in numbers else reads) for t, (page, reads) in enumerate(log[1], start=1)))) is not None


def readers(log):
    return [t for t, (_, reads) in enumerate(log[1], start=1) if reads]


def plain_cheapest(log, costs):
    """Straight by the words: of all sets, the cheapest, and the smallest of several."""
    sets = [numbers for many in range(13) for numbers in itertools.combinations(readers(log), many) if sufficient(log, numbers)]
    return min(sets, key=lambda numbers: (sum(costs[t - 1] for t in numbers), numbers))


def plain_thinned(log):
    """Straight by the words: all of them, less each one that can be removed."""
    chosen = readers(log)
    for t in readers(log):
        others = [other for other in chosen if other != t]
        if sufficient(log, others):
            chosen = others
    return tuple(chosen)


def pairs(many):
    """A log of this many deeds that read, in rings of two pages of their own."""
    return 32, tuple((n, (n ^ 1,)) for n in range(many))


class Few(unittest.TestCase):
    def test_examples(self):
        self.assertEqual(carried(LOG, (1, 5, 5)), (2,))
        self.assertEqual(carried(LOG, (1, 5, 4)), (3,))

    def test_no_ring(self):
        self.assertEqual(carried((1, ()), ()), ())
        self.assertEqual(carried((3, ((0, (1,)), (1, (2,)), (2, ()))), (1, 1, 1)), ())

    def test_costs(self):
        self.assertEqual(carried(LOG, (1, 1000000, 1000000)), (2,))
        self.assertEqual(carried(LOG, (1, 1000000, 999999)), (3,))
        log = (3, ((0, (1,)), (0, (2,)), (1, (0,)), (2, (0,))))
        self.assertEqual(carried(log, (1, 1, 1, 1)), (1, 2))
        self.assertEqual(carried(log, (1, 3, 2, 2)), (1, 4))
        self.assertEqual(carried(log, (1, 2, 2, 1)), (1, 4))
        log = (3, ((0, (1, 2)), (1, (0,)), (2, (0,))))
        self.assertEqual(carried(log, (2, 1, 1)), (1,))
        self.assertEqual(carried(log, (3, 1, 1)), (2, 3))

    def test_costs_that_are_alike(self):
        self.assertEqual(carried(pairs(12), (7,) * 12), (1, 3, 5, 7, 9, 11))
        log = (4, ((0, (1,)), (1, (0,)), (0, (1,)), (1, (2,)), (2, (1,))))
        self.assertEqual(carried(log, (1, 2, 1, 1, 1)), (1, 3, 4))
        self.assertEqual(carried(log, (1, 2, 1, 2, 1)), (1, 3, 5))

    def test_a_smaller_tuple_before_a_shorter_one(self):
        log = (4, ((1, (0,)), (2, (0,)), (0, (1, 2))))
        self.assertEqual(carried(log, (1, 1, 2)), (1, 2))
        log = (4, ((0, (1, 2)), (1, (0,)), (2, (0,))))
        self.assertEqual(carried(log, (2, 1, 1)), (1,))

    def test_all_but_one(self):
        log = (13, tuple((page, tuple(other for other in range(12) if other != page)) for page in range(12)))
        self.assertEqual(carried(log, (5,) * 11 + (6,)), (1, 2, 3, 4, 5, 6, 7, 8, 9, 10, 11))
        self.assertEqual(carried(log, (6,) + (5,) * 11), (2, 3, 4, 5, 6, 7, 8, 9, 10, 11, 12))

    def test_deeds_that_read_nothing_are_never_carried(self):
        log = (3, ((0, ()), (1, (0,)), (2, ()), (0, (1,)), (0, ())))
        self.assertEqual(carried(log, (1, 9, 1, 9, 1)), (2,))
        self.assertEqual(carried(log, (1, 9, 1, 8, 1)), (4,))

    def test_by_the_words_of_the_document(self):
        luck = chance(60)
        found = 0
        for _ in range(120):
            log = some_log(luck, 5, 9)
            costs = tuple(luck.choice((1, 1, 2, 3, 1000000)) for _ in log[1])
            expected = plain_cheapest(log, costs)
            self.assertEqual(carried(log, costs), expected)
            found += len(expected) > 1
        self.assertGreater(found, 20)


class Many(unittest.TestCase):
    def test_twelve_and_thirteen(self):
        self.assertEqual(carried(pairs(12), (9, 1) * 6), (2, 4, 6, 8, 10, 12))
        self.assertEqual(carried(pairs(13), (9, 1) * 6 + (1,)), (2, 4, 6, 8, 10, 12))
        log = (32, pairs(12)[1] + ((20, (0,)),))
        self.assertEqual(carried(log, (1, 9) * 6 + (1,)), (2, 4, 6, 8, 10, 12))
        log = (32, pairs(12)[1] + ((20, ()),) * 388)
        self.assertEqual(carried(log, (1, 9) * 200), (1, 3, 5, 7, 9, 11))

    def test_each_deed_is_removed_if_it_can_be(self):
        luck = chance(61)
        taken = 0
        for _ in range(80):
            log = some_log(luck, 8, 40)
            if len(readers(log)) > 12:
                costs = tuple(luck.randint(1, 1000000) for _ in log[1])
                self.assertEqual(carried(log, costs), plain_thinned(log))
                taken += len(carried(log, costs))
        self.assertGreater(taken, 100)

    def test_the_largest_log(self):
        log = (32, tuple((n % 32, tuple(sorted(((n + 1) % 32, (n + 2) % 32)))) for n in range(400)))
        chosen = carried(log, (1,) * 400)
        self.assertEqual(chosen, plain_thinned(log))
        self.assertIs(sufficient(log, chosen), True)


class Costs(unittest.TestCase):
    def test_costs_of_another_form(self):
        for costs in (None, 3, True, "555", (), (1, 5), (1, 5, 5, 5), (0, 0)):
            self.assertEqual(refusal(carried, LOG, costs), ("BadCosts", -1), costs)
        for bad in (0, -1, 1000001, True, False, None, "5", (5,)):
            for index in range(3):
                costs = (1,) * index + (bad,) + (0,) * (2 - index)
                self.assertEqual(refusal(carried, LOG, costs), ("BadCosts", index), costs)
        self.assertEqual(refusal(carried, (1, ()), (1,)), ("BadCosts", -1))

    def test_costs_of_deeds_that_read_nothing_must_be_costs(self):
        self.assertEqual(refusal(carried, (1, ((0, ()),)), (0,)), ("BadCosts", 0))
        self.assertEqual(refusal(carried, pairs(20), (1,) * 19 + (0,)), ("BadCosts", 19))

    def test_bad_logs_go_ahead(self):
        for thing, what in BAD_LOGS:
            self.assertEqual(refusal(carried, thing, None), ("BadLog", what))
        self.assertEqual(refusal(carried, (33, ()), None), ("TooMany", 33))


if __name__ == "__main__":
    unittest.main()

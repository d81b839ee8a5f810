import unittest

from samples import BAD_LOGS, THINGS, chance, refusal, some_image, some_log, version_at_moment
from wendleaf.known import grown, known
from wendleaf.moves import move
from wendleaf.plans import after, mendable, plan, plan_right, road, slice_at

LOG = (3, ((0, ()), (1, (0,)), (0, ()), (2, (1,))))
RING = (2, ((0, (1,)), (1, (0,))))
PLAN = ((3, -1), (1, -1), (1, 1), (2, 1), (3, 1), (4, 1))


def newest(log):
    return tuple(version_at_moment(log, page, len(log[1])) for page in range(log[0]))


def plain_slice(log, lots, s):
    """Straight by the words: the version at the moment, or the nearest one in the lot."""
    entries = []
    for page, lot in enumerate(lots):
        there = version_at_moment(log, page, s)
        entries.append(None if lot is None else min(range(lot[0], lot[1] + 1), key=lambda version: abs(version - there)))
    return tuple(entries)


def plain_road(log, image):
    """Straight by the words of point 10, with the lots as sets."""
    lots = [set() if entry is None else {entry} for entry in image]
    moves = []
    moment = 0

    def both(t):
        page = log[1][t - 1][0]
        return {version_at_moment(log, page, t - 1), version_at_moment(log, page, t)} <= lots[page]

    def go(goal):
        nonlocal moment
        if moment < goal:
            moves.extend((t, 1) for t in range(moment + 1, goal + 1) if both(t))
        if moment > goal:
            moves.extend((t, -1) for t in range(moment, goal, -1) if both(t))
        moment = goal

    for t, way in grown(log, image):
        go(t - 1 if way == 1 else t)
        moves.append((t, way))
        page = log[1][t - 1][0]
        lots[page].add(version_at_moment(log, page, t if way == 1 else t - 1))
        moment = t if way == 1 else t - 1
    go(len(log[1]))
    return tuple(moves)


def reachable(log, image):
    """All images to which moves lead."""
    met, fresh = {image}, [image]
    while fresh:
        here = fresh.pop()
        for t, (page, reads) in enumerate(log[1], start=1):
            if any(here[read] != version_at_moment(log, read, t) for read in reads):
                continue
            sides = (version_at_moment(log, page, t - 1), version_at_moment(log, page, t))
            if here[page] in sides:
                there = here[:page] + (sides[0] + sides[1] - here[page],) + here[page + 1:]
                if there not in met:
                    met.add(there)
                    fresh.append(there)
    return met


def cases(seed, many, pages=4, deeds=10, lost=0.15):
    luck = chance(seed)
    for count in range(many):
        log = some_log(luck, pages, deeds, ringless=count % 3 == 0)
        yield luck, log, some_image(luck, log, (0.0, lost)[count % 2])


class Slices(unittest.TestCase):
    def test_the_example_log(self):
        lots = known(LOG, (2, 0, 0))
        self.assertEqual([slice_at(LOG, lots, s) for s in range(5)], [(0, 0, 0), (1, 0, 0), (1, 1, 0), (2, 1, 0), (2, 1, 1)])

    def test_the_nearest_version_in_the_lot(self):
        self.assertEqual([slice_at(RING, ((0, 0), (1, 1)), s) for s in range(3)], [(0, 1)] * 3)
        log = (1, ((0, ()),) * 5)
        self.assertEqual([slice_at(log, ((1, 3),), s) for s in range(6)], [(1,), (1,), (2,), (3,), (3,), (3,)])
        self.assertEqual([slice_at(log, (None,), s) for s in range(6)], [(None,)] * 6)

    def test_every_moment(self):
        for _, log, image in cases(20, 200):
            lots = known(log, image)
            for s in range(len(log[1]) + 1):
                self.assertEqual(slice_at(log, lots, s), plain_slice(log, lots, s))

    def test_numbers_that_are_no_moments(self):
        for s in (-1, 5, True, False, None, "0", (), 10 ** 13):
            self.assertEqual(refusal(slice_at, LOG, known(LOG, (2, 0, 0)), s), ("BadNumber", s))
        self.assertEqual(slice_at((1, ()), ((0, 0),), 0), (0,))
        self.assertEqual(refusal(slice_at, (1, ()), ((0, 0),), 1), ("BadNumber", 1))

    def test_bad_logs_go_first(self):
        for thing, what in BAD_LOGS:
            self.assertEqual(refusal(slice_at, thing, (), -1), ("BadLog", what))
        self.assertEqual(refusal(slice_at, (33, ()), (), -1), ("TooMany", 33))


class Roads(unittest.TestCase):
    def test_examples(self):
        self.assertEqual(plan(LOG, (2, 0, 0)), PLAN)
        self.assertEqual(road(LOG, (2, 0, 0)), PLAN)
        self.assertEqual(after(LOG, (2, 0, 0), PLAN), (2, 1, 1))
        self.assertEqual(plan(LOG, (2, 1, 1)), ())

    def test_the_road_of_an_image_at_the_end_is_not_empty(self):
        self.assertEqual(road(LOG, (2, 1, 1)), ((3, -1), (1, -1), (1, 1), (2, -1), (2, 1), (3, 1), (4, -1), (4, 1)))
        self.assertEqual(road((2, ()), (0, None)), ())
        self.assertEqual(plan((2, ()), (0, None)), ())

    def test_a_plan_that_goes_down_and_up_again(self):
        log = (2, ((0, ()), (1, (0,)), (0, (1,))))
        self.assertEqual(plan(log, (0, 1)), ((1, 1), (2, -1), (2, 1), (3, 1)))

    def test_nothing_that_is_known_can_be_led_on(self):
        self.assertEqual(plan(RING, (0, 1)), ())
        self.assertEqual(road(RING, (0, 1)), ())
        self.assertEqual(plan(LOG, (None, 0, 0)), ())
        self.assertEqual(plan(LOG, (None, 1, 0)), ((4, 1),))

    def test_by_the_words_of_the_document(self):
        moved = 0
        for _, log, image in cases(21, 600, 5, 14):
            expected = plain_road(log, image)
            self.assertEqual(road(log, image), expected)
            lots = known(log, image)
            goal = plain_slice(log, lots, len(log[1]))
            self.assertEqual(plan(log, image), () if image == goal else expected)
            moved += len(plan(log, image))
        self.assertGreater(moved, 2000)

    def test_roads_are_allowed_pass_all_that_is_known_and_end_at_the_slice(self):
        for _, log, image in cases(22, 200):
            n = len(log[1])
            lots = known(log, image)
            moves = road(log, image)
            self.assertLessEqual(len(moves), n * (n + 2))
            passed = [{entry} for entry in image]
            here = image
            for thing in moves:
                here = move(log, here, thing)
                for page, entry in enumerate(here):
                    passed[page].add(entry)
            self.assertEqual(here, slice_at(log, lots, n))
            self.assertEqual(passed, [{None} if lot is None else set(range(lot[0], lot[1] + 1)) for lot in lots])

    def test_a_plan_stopped_anywhere_and_made_anew_leads_to_the_same_slice(self):
        for _, log, image in cases(23, 120):
            goal = slice_at(log, known(log, image), len(log[1]))
            moves = plan(log, image)
            self.assertEqual(after(log, image, moves), goal)
            self.assertEqual(plan(log, goal), ())
            for stop in range(len(moves) + 1):
                reached = after(log, image, moves[:stop])
                self.assertEqual(known(log, reached), known(log, image))
                self.assertEqual(after(log, reached, plan(log, reached)), goal)

    def test_the_largest_log(self):
        luck = chance(24)
        deeds = tuple((n % 32, tuple(sorted(luck.sample([p for p in range(32) if p != n % 32], 3)))) for n in range(400))
        moves = plan((32, deeds), (0,) * 32)
        self.assertEqual(moves, tuple((t, 1) for t in range(1, 401)))
        self.assertEqual(plan((32, deeds), newest((32, deeds))), ())
        log = (2, ((0, ()), (1, (0,))) * 200)
        moves = plan(log, (100, 0))
        self.assertIs(plan_right(log, (100, 0), moves), True)
        self.assertEqual(after(log, (100, 0), moves), (200, 200))


class After(unittest.TestCase):
    def test_the_index_of_the_first_move_that_is_refused(self):
        self.assertEqual(after(LOG, (2, 0, 0), ()), (2, 0, 0))
        self.assertEqual(after(LOG, (2, 0, 0), PLAN[:3]), (1, 0, 0))
        self.assertEqual(refusal(after, LOG, (2, 0, 0), ((1, 1),)), ("NoMove", 0))
        self.assertEqual(refusal(after, LOG, (2, 0, 0), PLAN[:2] + PLAN[3:]), ("NoMove", 2))
        self.assertEqual(refusal(after, LOG, (2, 0, 0), PLAN + ((4, 1), None)), ("NoMove", 6))
        self.assertEqual(refusal(after, LOG, (None, 0, 0), PLAN), ("NoMove", 0))

    def test_things_that_are_no_moves(self):
        for thing in THINGS:
            if thing != (1, 1):
                self.assertEqual(refusal(after, LOG, (0, 0, 0), ((1, 1), thing)), ("NoMove", 1))

    def test_bad_logs_and_images_go_ahead(self):
        for call in (lambda log, image: after(log, image, (None,)), road, plan):
            for thing, what in BAD_LOGS:
                self.assertEqual(refusal(call, thing, None), ("BadLog", what))
            self.assertEqual(refusal(call, (33, ()), None), ("TooMany", 33))
            self.assertEqual(refusal(call, LOG, (0, 0)), ("BadImage", -1))
            self.assertEqual(refusal(call, LOG, (0, 2, 0)), ("BadImage", 1))


class Judging(unittest.TestCase):
    def test_plans_are_right(self):
        self.assertIs(plan_right(LOG, (2, 0, 0), PLAN), True)
        self.assertIs(plan_right(LOG, (2, 1, 1), ()), True)
        self.assertIs(plan_right(LOG, (2, 1, 1), road(LOG, (2, 1, 1))), True)
        self.assertIs(plan_right(LOG, (None, 1, 0), ((4, 1),)), True)
        for _, log, image in cases(25, 100):
            self.assertIs(plan_right(log, image, plan(log, image)), True)
            self.assertIs(plan_right(log, image, road(log, image)), True)

    def test_other_right_plans(self):
        self.assertIs(plan_right(LOG, (2, 0, 0), PLAN + ((4, -1), (4, 1))), True)
        self.assertIs(plan_right(LOG, (1, 0, 0), ((2, 1), (3, 1), (4, 1))), True)
        self.assertIs(plan_right(LOG, (1, 0, 0), ((2, 1), (4, 1), (3, 1))), True)

    def test_moves_left_out_and_moves_too_many(self):
        for index in range(len(PLAN)):
            self.assertIs(plan_right(LOG, (2, 0, 0), PLAN[:index] + PLAN[index + 1:]), False)
            self.assertIs(plan_right(LOG, (2, 0, 0), PLAN[:index]), False)
        self.assertIs(plan_right(LOG, (2, 0, 0), PLAN + ((4, 1),)), False)
        self.assertIs(plan_right(LOG, (2, 0, 0), PLAN + ((4, -1),)), False)
        self.assertIs(plan_right(LOG, (2, 0, 0), ((1, -1),) + PLAN), False)
        self.assertIs(plan_right(LOG, (2, 1, 1), ((4, -1),)), False)
        self.assertIs(plan_right(LOG, (2, 1, 1), PLAN), False)

    def test_moves_by_chance(self):
        right = wrong = 0
        for luck, log, image in cases(26, 300, 3, 4):
            lots = known(log, image)
            for _ in range(6):
                moves = tuple((luck.randint(1, max(1, len(log[1]))), luck.choice((1, -1))) for _ in range(luck.randint(0, 4)))
                here = image
                for t, way in moves:
                    names = [other for other in reachable(log, here) if t <= len(log[1]) and self.leads(log, here, other, t, way)]
                    here = names[0] if names and here is not None else None
                    if here is None:
                        break
                expected = here is not None and here == plain_slice(log, lots, len(log[1]))
                self.assertIs(plan_right(log, image, moves), expected)
                right += expected
                wrong += not expected
        self.assertGreater(right, 100)
        self.assertGreater(wrong, 500)

    def leads(self, log, here, other, t, way):
        """Whether the deed leads from one image to the other, by the words of the document."""
        page, reads = log[1][t - 1]
        sides = (version_at_moment(log, page, t - 1), version_at_moment(log, page, t))
        first, second = sides if way == 1 else (sides[1], sides[0])
        others = all(here[each] == other[each] for each in range(log[0]) if each != page)
        ready = all(here[read] == version_at_moment(log, read, t) for read in reads)
        return others and ready and here[page] == first and other[page] == second

    def test_things_of_another_form(self):
        for moves in (None, 1, True, "", "(1, 1)", ((True, 1),), ((3, -1, 0),), PLAN + (None,), ((3.0, -1),)):
            self.assertIs(plan_right(LOG, (2, 0, 0), moves), False, moves)
        for thing in THINGS:
            self.assertIs(plan_right(thing, (0, 0), ()), False)
            self.assertIs(plan_right(LOG, thing, ()), False)
            self.assertIs(plan_right(LOG, (2, 0, 0), thing), False)
            self.assertIs(plan_right(LOG, (2, 0, 0), (thing,)), False)
            self.assertIs(plan_right(LOG, (2, 0, 0), PLAN + (thing,)), False)
        self.assertIs(plan_right(LOG, (2, 1, True), ()), False)
        self.assertIs(plan_right((33, ()), (0,) * 33, ()), False)


class Mendable(unittest.TestCase):
    def test_some(self):
        self.assertIs(mendable(LOG, (2, 0, 0)), True)
        self.assertIs(mendable(LOG, (2, 1, 1)), True)
        self.assertIs(mendable(RING, (0, 0)), True)
        self.assertIs(mendable(RING, (0, 1)), False)
        self.assertIs(mendable((3, ()), (0, 0, 0)), True)

    def test_lost_pages(self):
        self.assertIs(mendable((3, ()), (0, None, 0)), False)
        self.assertIs(mendable(LOG, (2, 1, None)), False)
        self.assertIs(mendable(LOG, (None, None, None)), False)

    def test_things_of_another_form(self):
        for thing in THINGS:
            self.assertIs(mendable(thing, ()), False)
            self.assertIs(mendable(LOG, thing), False)
            self.assertIs(mendable(LOG, (2, thing, 5)), False)
            self.assertIs(mendable(thing, thing), False)
        self.assertIs(mendable(LOG, (2, 0)), False)
        self.assertIs(mendable(LOG, (2, 0, False)), False)
        self.assertIs(mendable(LOG, (3, 0, 0)), False)
        self.assertIs(mendable((33, ()), (0,) * 33), False)
        self.assertIs(mendable((2, ((0, (0,)),)), (0, 0)), False)

    def test_against_every_image_that_moves_can_reach(self):
        tally = {True: 0, False: 0}
        for count, (_, log, image) in enumerate(cases(27, 250, 3, 8)):
            expected = None not in image and newest(log) in reachable(log, image)
            self.assertIs(mendable(log, image), expected)
            tally[expected] += 1
            if count % 3 == 0 and None not in image:
                self.assertTrue(expected)
        self.assertGreater(tally[False], 50)
        self.assertGreater(tally[True], 50)


if __name__ == "__main__":
    unittest.main()

"""Point 10: good starts."""

import copy
import unittest

from slotgaps.ends import earliest, earliest_from, latest
from slotgaps.patterns import contains, is_pattern, shifted
from slotgaps.plans import find_plan
from slotgaps.refutations import find_refutation
from slotgaps.starts import good_starts, next_good, worst_wait
from tests.samples import ANY, CYCLES, MUCH, NEVER, NO_PLANS, POST, VISIT, is_smallest_of
from tests.search import dense_errands, knotted_errands, plans_from, plans_of_an_hour, small_errands

ROOMY = (((10, (0, 5, 6)), (10, (0,))), ((0, 1, 1, 4),))
FIXED = [POST, VISIT, ROOMY] + CYCLES
KNOTS = dense_errands(20, seed=6)
KNOTS += [errand for steps in range(1, 7) for errand in knotted_errands(40, steps, seed=6)]


class Examples(unittest.TestCase):
    def test_all(self):
        self.assertEqual([good_starts(POST), next_good(POST, 11), worst_wait(POST)], [(30, (0, 10)), 30, 19])


class BySearch(unittest.TestCase):
    @classmethod
    def setUpClass(cls):
        errands = FIXED + KNOTS + small_errands(10, 2) + small_errands(10, 3)
        cls.hours = [(errand, sorted({plan[0] for plan in plans_of_an_hour(errand)})) for errand in errands]

    def test_there_are_errands_of_each_kind(self):
        full = [good for errand, good in self.hours if len(errand[1]) == 8]
        self.assertGreater(sum(bool(good) for good in full), 10)
        self.assertGreater(sum(not good for good in full), 5)
        for steps in range(2, 7):
            sizes = {len(good) for errand, good in self.hours if len(errand[0]) == steps}
            self.assertGreater(len(sizes), 3)

    def test_good_starts(self):
        for errand, good in self.hours:
            before = copy.deepcopy(errand)
            got = good_starts(errand)
            self.assertTrue(is_smallest_of(got, lambda t: t in good), (errand, got, good))
            self.assertIs(is_pattern(got), True)
            self.assertEqual(errand, before)

    def test_next_good(self):
        for errand, good in self.hours:
            before = copy.deepcopy(errand)
            starts = [start + by for by in range(-180, 241, 60) for start in good]
            for time in list(range(-66, 70)) + [117, 180]:
                wanted = min((start for start in starts if start >= time), default=None)
                got = next_good(errand, time)
                self.assertEqual((got, type(got)), (wanted, type(wanted)), (errand, time))
            self.assertEqual(errand, before)

    def test_worst_wait(self):
        for errand, good in self.hours:
            before = copy.deepcopy(errand)
            starts = [start + by for by in (0, 60) for start in good]
            wanted = max(min(start - time for start in starts if start >= time) for time in range(60)) if good else None
            got = worst_wait(errand)
            self.assertEqual((got, type(got)), (wanted, type(wanted)), errand)
            self.assertEqual(errand, before)


class AllTimes(unittest.TestCase):
    def test_starts_before_and_after_the_hour(self):
        for errand in FIXED + KNOTS[::7]:
            good = good_starts(errand)
            for start in list(range(-70, 0)) + list(range(60, 131)):
                self.assertIs(contains(good, start), bool(plans_from(errand, start)), (errand, start))

    def test_starts_of_many_digits(self):
        for by in MUCH:
            for errand in (POST, VISIT, ROOMY, CYCLES[0], CYCLES[1], KNOTS[90]):
                good = good_starts(errand)
                for start in range(by - 3, by + 22):
                    self.assertIs(contains(good, start), bool(plans_from(errand, start)), errand)

    def test_next_good_from_times_of_many_digits(self):
        for by in MUCH:
            for errand in FIXED + KNOTS[::5] + NO_PLANS:
                for time in (-31, 0, 1, 17, 59):
                    near = next_good(errand, time)
                    self.assertEqual(next_good(errand, by + time), None if near is None else by + near)


class GoodStarts(unittest.TestCase):
    def test_without_a_plan(self):
        for errand in NO_PLANS + [CYCLES[1], CYCLES[5]]:
            self.assertEqual((good_starts(errand), worst_wait(errand)), ((1, ()), None))
            for time in (-61, 0, 33, 10 ** 59, -10 ** 3990):
                self.assertIsNone(next_good(errand, time))

    def test_one_step(self):
        for pattern, wanted in (((60, ()), (1, ())), ((60, (7,)), (60, (7,))), ((10, (0, 5)), (5, (0,))),
                                ((2, (0, 1)), (1, (0,))), (ANY, ANY), ((30, (1, 11, 21)), (10, (1,)))):
            self.assertEqual(good_starts(((pattern,), ())), wanted)

    def test_every_start(self):
        for errand in (((ANY,), ()), ((ANY, ANY), ()), ((ANY, (60, (59,))), ()), ((ANY,) * 6, ((5, 4, 3, 3),) * 8)):
            self.assertEqual((good_starts(errand), worst_wait(errand)), ((1, (0,)), 0))
            for time in (-61, 0, 17, 10 ** 59):
                self.assertEqual(next_good(errand, time), time)

    def test_a_step_without_times_forbids_all(self):
        for steps in range(1, 7):
            for place in range(steps):
                patterns = [ANY] * steps
                patterns[place] = NEVER
                self.assertEqual(good_starts((tuple(patterns), ())), (1, ()))

    def test_a_period_that_no_step_has(self):
        self.assertEqual(good_starts((((4, (0,)), (6, (1,))), ((0, 1, 0, 1),))), (12, (0,)))
        self.assertEqual(good_starts((((60, (0, 30)), (30, (10,))), ((0, 1, 10, 10),))), (30, (0,)))
        self.assertEqual(good_starts(((ANY, (12, (5,)), (15, (5,))), ((1, 2, 0, 0), (0, 1, 5, 5)))), (60, (0,)))

    def test_the_last_times_of_the_hour(self):
        errand = (((60, (0, 58, 59)), (60, (0, 59))), ((0, 1, 0, 1),))
        self.assertEqual(good_starts(errand), (60, (0, 58, 59)))
        self.assertEqual([next_good(errand, time) for time in (-2, -1, 0, 1, 58, 59, 60, 61)],
                         [-2, -1, 0, 58, 58, 59, 60, 118])
        self.assertEqual(worst_wait(errand), 57)

    def test_the_span_forbids_starts(self):
        self.assertEqual(good_starts((((10, (0,)), (60, (0,))), ((0, 1, 115, None),))), (60, (0,)))
        self.assertEqual(good_starts((((20, (0,)), (60, (0,))), ((0, 1, None, -110),))), (60, (0,)))

    def test_worst_waits(self):
        for times, wanted in (((0,), 59), ((59,), 59), ((0, 1), 58), ((0, 30), 29), ((10, 30), 39), ((10, 40, 45), 29),
                              ((5, 6, 7), 57), (tuple(range(60)), 0), (tuple(range(0, 60, 2)), 1)):
            self.assertEqual(worst_wait((((60, times),), ())), wanted)
            self.assertEqual(worst_wait((((60, times), ANY), ((0, 1, 5, None),))), wanted)


class Agreement(unittest.TestCase):
    def test_a_good_start_is_one_with_a_plan(self):
        for errand in FIXED + KNOTS[::3] + NO_PLANS:
            good = good_starts(errand)
            for start in range(-5, 65):
                is_good = contains(good, start)
                self.assertIs(earliest(errand, start) is not None, is_good)
                self.assertIs(latest(errand, start) is not None, is_good)
                self.assertIs(find_plan(errand, {0: start}) is not None, is_good)
                self.assertIs(find_refutation(errand, {0: start}) is None, is_good)

    def test_the_next_good_start_begins_the_earliest_plan(self):
        for errand in FIXED + KNOTS[::3]:
            for time in (-60, -7, 0, 33, 10 ** 59):
                plan = earliest_from(errand, 0, time)
                self.assertEqual(next_good(errand, time), None if plan is None else plan[0])

    def test_the_worst_wait_is_met(self):
        for errand in FIXED + KNOTS[::3]:
            worst = worst_wait(errand)
            if worst is not None:
                self.assertEqual(max(next_good(errand, time) - time for time in range(-20, 40)), worst)

    def test_moved_patterns_move_the_good_starts(self):
        for errand in FIXED + KNOTS[::5]:
            for by in (1, -17, 10 ** 59 + 3):
                later = (tuple(shifted(pattern, by) for pattern in errand[0]), errand[1])
                self.assertEqual(good_starts(later), shifted(good_starts(errand), by))
                self.assertEqual(worst_wait(later), worst_wait(errand))

    def test_equal_results_for_equal_arguments(self):
        for errand in FIXED:
            same = copy.deepcopy(errand)
            self.assertEqual(good_starts(errand), good_starts(same))
            self.assertEqual(next_good(errand, 11), next_good(same, 11))
            self.assertEqual(worst_wait(errand), worst_wait(same))


if __name__ == "__main__":
    unittest.main()

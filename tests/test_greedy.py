"""Point 12: taking the next open time."""

import copy
import unittest

from slotgaps.ends import earliest
from slotgaps.greedy import find_failure, walk
from slotgaps.plans import find_plan, is_plan
from slotgaps.starts import good_starts
from tests.samples import ANY, CYCLES, MUCH, NEVER, NO_PLANS, POST, VISIT, contained
from tests.search import (
    dense_errands, is_plan_by_words, knotted_errands, moved, plans_of_an_hour, small_errands)

FIXED = [POST, VISIT] + CYCLES
KNOTS = dense_errands(20, seed=8)
KNOTS += [errand for steps in range(1, 7) for errand in knotted_errands(40, steps, seed=8)]


def demands(waits, times, j):
    """The times before which step j must not be, by the earlier steps' times."""
    for a, b, low, high in waits:
        if b == j and a < j and low is not None:
            yield times[a] + low
        if a == j and b < j and high is not None:
            yield times[b] - high


def walk_by_words(errand, start):
    patterns, waits = errand
    times = [start]
    for j in range(1, len(patterns)):
        least = max([start - 120, *demands(waits, times, j)])
        opened = contained(patterns[j], least, least + 60)
        if not opened:
            return None
        times.append(opened[0])
    return tuple(times) if is_plan_by_words(errand, times) else None


class Examples(unittest.TestCase):
    def test_all(self):
        got = [walk(POST, 10), walk(VISIT, 0), find_failure(VISIT), find_failure(POST)]
        self.assertEqual(got, [(10, 20), None, 0, None])


class BySearch(unittest.TestCase):
    def test_walk(self):
        found = 0
        for errand in FIXED + KNOTS + small_errands(15, 2) + small_errands(15, 3):
            before = copy.deepcopy(errand)
            for start in range(-62, 80):
                got, wanted = walk(errand, start), walk_by_words(errand, start)
                self.assertEqual((got, type(got)), (wanted, type(wanted)), (errand, start))
                found += got is not None
            self.assertEqual(errand, before)
        self.assertGreater(found, 1000)

    def test_find_failure(self):
        answers = {}
        for errand in FIXED + KNOTS + small_errands(40, 2) + small_errands(40, 3):
            before = copy.deepcopy(errand)
            good = sorted({plan[0] for plan in plans_of_an_hour(errand)})
            wanted = next((start for start in good if walk_by_words(errand, start) is None), None)
            got = find_failure(errand)
            self.assertEqual((got, type(got)), (wanted, type(wanted)), errand)
            self.assertEqual(errand, before)
            answers.setdefault((wanted is None, bool(good)), []).append(wanted)
        self.assertEqual(sorted(answers), [(False, True), (True, False), (True, True)])
        self.assertGreater(min(len(found) for found in answers.values()), 20)
        self.assertGreater(len(set(answers[False, True])), 10)


class Walk(unittest.TestCase):
    def test_starts_that_are_not_open(self):
        for start in (1, 5, 9, 11, -1, 10 ** 59 + 1):
            self.assertIsNone(walk(POST, start))
            self.assertIsNone(walk(VISIT, start))
        self.assertIsNone(walk(((NEVER,), ()), 0))

    def test_open_starts_without_a_plan(self):
        for start in (20, 50, -10, 110):
            self.assertIsNone(walk(POST, start))
        for errand in NO_PLANS + [CYCLES[1], CYCLES[5]]:
            self.assertIsNone(find_failure(errand))
            for start in (-60, 0, 10, 20, 30, 10 ** 59):
                self.assertIsNone(walk(errand, start))

    def test_one_step(self):
        for time in range(-25, 26):
            self.assertEqual(walk((((10, (3,)),), ()), time), (time,) if time % 10 == 3 else None)
        self.assertIsNone(find_failure((((10, (3,)),), ())))

    def test_120_before_the_start(self):
        self.assertEqual(walk(((ANY,) * 3, ()), 7), (7, -113, -113))
        self.assertEqual(walk(((ANY, (60, (7,)), (60, (6,))), ()), 7), (7, -113, -54))
        self.assertEqual(walk(((ANY, ANY), ((0, 1, -120, None),)), 7), (7, -113))
        self.assertEqual(walk(((ANY, ANY, ANY), ((0, 1, -110, None), (1, 2, -50, None))), 0), (0, -110, -120))

    def test_120_after_the_start(self):
        self.assertEqual(walk(((ANY, ANY), ((0, 1, 120, None),)), 7), (7, 127))
        self.assertIsNone(walk(((ANY, (60, (8,))), ((0, 1, 120, None),)), 7))
        self.assertEqual(walk(((ANY, (60, (7,))), ((0, 1, 61, None),)), 7), (7, 127))

    def test_waits_from_earlier_steps_demand(self):
        for wait in ((0, 1, 5, None), (1, 0, None, -5), (0, 1, 5, 60), (1, 0, -60, -5)):
            self.assertEqual(walk(((ANY, ANY), (wait,)), 0), (0, 5))
            self.assertEqual(walk(((ANY, ANY, ANY), (wait, (1, 2, 3, None))), 0), (0, 5, 8))
        for wait in ((0, 1, None, 5), (1, 0, -5, None), (1, 0, -5, 120)):
            self.assertEqual(walk(((ANY, ANY), (wait,)), 3), (3, -117))
        self.assertEqual(walk(((ANY, ANY), ((1, 0, 5, 100),)), 3), (3, -97))

    def test_the_last_demand_counts(self):
        waits = ((0, 2, 4, None), (2, 1, None, -9), (0, 2, 6, None), (0, 1, -3, None))
        self.assertEqual(walk(((ANY, ANY, ANY), waits), 0), (0, -3, 6))
        self.assertEqual(walk(((ANY, ANY, (10, (0,))), waits), 0), (0, -3, 10))
        self.assertEqual(walk(((ANY, ANY, ANY), waits[::-1]), 20), (20, 17, 26))

    def test_waits_with_later_steps_do_not_demand(self):
        errand = ((ANY, ANY, (60, (0,))), ((2, 1, 5, None),))
        self.assertEqual(walk(errand, 60), None)
        self.assertEqual(earliest(errand, 60), (60, -55, -60))
        self.assertEqual(find_failure(errand), 0)
        self.assertEqual(walk(((ANY, ANY, ANY), ((2, 1, 5, 9), (0, 2, 4, None))), 3), None)

    def test_a_later_wait_may_fail_the_walk(self):
        errand = (((60, (0,)), (60, (10, 40)), (60, (45,))), ((0, 1, 1, None), (1, 2, 1, 10)))
        self.assertIsNone(walk(errand, 0))
        self.assertEqual(earliest(errand, 0), (0, 40, 45))
        self.assertEqual(find_failure(errand), 0)

    def test_a_step_without_times(self):
        for steps in range(1, 7):
            for place in range(steps):
                patterns = [ANY] * steps
                patterns[place] = NEVER
                self.assertIsNone(walk((tuple(patterns), ()), 0))
                self.assertIsNone(find_failure((tuple(patterns), ())))

    def test_starts_of_many_digits(self):
        for by in MUCH:
            for errand in FIXED + KNOTS[::6] + NO_PLANS:
                for start in (0, 5, 10, 30):
                    plan = walk(errand, start)
                    self.assertEqual(walk(errand, by + start), None if plan is None else moved(plan, by))
            self.assertEqual(walk(POST, by + 10), walk_by_words(POST, by + 10))


class FindFailure(unittest.TestCase):
    def test_the_first_one(self):
        # A start at 0 or 30 leads to a plan by itself, one at 15 or 45 does not.
        errand = (((15, (0,)), (30, (5, 19)), (30, (10,))), ((0, 1, 1, None), (1, 2, 1, 6)))
        self.assertEqual(walk(errand, 0), (0, 5, 10))
        self.assertIsNone(walk(errand, 15))
        self.assertEqual(earliest(errand, 15), (15, 35, 40))
        self.assertEqual(find_failure(errand), 15)

    def test_the_last_start_of_the_hour(self):
        errand = (((60, (0, 59)), (60, (5, 7)), (60, (11,))), ((0, 1, 6, None), (1, 2, 1, 5)))
        self.assertEqual(walk(errand, 0), (0, 7, 11))
        self.assertEqual((walk(errand, 59), earliest(errand, 59)), (None, (59, 67, 71)))
        self.assertEqual(find_failure(errand), 59)

    def test_starts_that_are_not_good_do_not_count(self):
        self.assertEqual((walk(POST, 20), walk(POST, 3), find_failure(POST)), (None, None, None))

    def test_equal_results_for_equal_arguments(self):
        for errand in FIXED:
            self.assertEqual(find_failure(errand), find_failure(copy.deepcopy(errand)))
            self.assertEqual(walk(errand, 20), walk(copy.deepcopy(errand), 20))


class Agreement(unittest.TestCase):
    def test_a_walk_that_succeeds_is_the_earliest_plan(self):
        for errand in FIXED + KNOTS:
            for start in range(-5, 65):
                plan = walk(errand, start)
                if plan is not None:
                    self.assertEqual((is_plan(errand, plan), plan[0]), (True, start))
                    self.assertEqual(plan, earliest(errand, start))
                    self.assertEqual(plan, find_plan(errand, dict(enumerate(plan))))

    def test_no_failure_means_that_all_good_starts_succeed(self):
        for errand in FIXED + KNOTS:
            period, times = good_starts(errand)
            failed = [start for start in range(60) if start % period in times and walk(errand, start) is None]
            self.assertEqual(find_failure(errand), failed[0] if failed else None)


if __name__ == "__main__":
    unittest.main()

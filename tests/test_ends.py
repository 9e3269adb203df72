"""Point 8: earliest and latest plans."""

import copy
import itertools
import unittest

from slotgaps.ends import earliest, earliest_from, latest, latest_by, windows
from slotgaps.errands import mirrored
from slotgaps.plans import find_plan, is_plan
from tests.samples import ANY, MUCH, NO_PLANS, POST, VISIT
from tests.search import (
    earliest_of, latest_of, moved, plans_between, plans_from, plans_with, small_errands)

ROOMY = (((60, (0,)), (10, (0,))), ((0, 1, 5, 40),))
ERRANDS = [POST, VISIT, ROOMY] + small_errands(8, 1) + small_errands(12, 2) + small_errands(14, 3)


def mirrored_times(plan):
    return None if plan is None else tuple(-time for time in plan)


class Examples(unittest.TestCase):
    def test_earliest_and_latest(self):
        got = [earliest(POST, 10), earliest(POST, 20), earliest(VISIT, 0), latest(VISIT, 0)]
        self.assertEqual(got, [(10, 20), None, (0, 20, 25), (0, 20, 25)])

    def test_earliest_from_and_latest_by(self):
        got = [earliest_from(POST, 1, 21), latest_by(POST, 1, 21), latest_by(VISIT, 2, 24)]
        self.assertEqual(got, [(30, 35), (10, 20), (-60, -40, -35)])

    def test_windows(self):
        self.assertEqual(windows(ROOMY, {0: 60}), [(60, 60), (70, 100)])


class EarliestAndLatest(unittest.TestCase):
    def check(self, errand, start):
        before = copy.deepcopy(errand)
        plans = plans_from(errand, start)
        self.assertEqual(earliest(errand, start), earliest_of(plans), (errand, start))
        self.assertEqual(latest(errand, start), latest_of(plans), (errand, start))
        self.assertEqual(errand, before)
        return bool(plans)

    def test_all_starts_of_small_errands(self):
        found = sum(self.check(errand, start) for errand in ERRANDS for start in range(-65, 66))
        self.assertGreater(found, 200)

    def test_good_starts(self):
        self.assertEqual((earliest(ROOMY, 60), latest(ROOMY, 60)), ((60, 70), (60, 100)))
        self.assertEqual((earliest(POST, -30), latest(POST, -30)), ((-30, -25), (-30, -25)))
        self.assertEqual((earliest(((ANY,), ()), -7), latest(((ANY,), ()), -7)), ((-7,), (-7,)))
        self.assertEqual(earliest(((ANY, ANY, ANY), ()), 3), (3, -117, -117))
        self.assertEqual(latest(((ANY, ANY, ANY), ()), 3), (3, 123, 123))

    def test_open_starts_without_a_plan(self):
        for start in (20, 50, -10, -40):
            self.assertEqual((earliest(POST, start), latest(POST, start)), (None, None))
        for errand in NO_PLANS:
            for start in range(-3, 4):
                self.assertEqual((earliest(errand, 10 * start), latest(errand, 10 * start)), (None, None))

    def test_starts_that_are_not_open(self):
        for start in (1, 5, 9, 11, -1, -9, 10 ** 59 + 1):
            self.assertEqual((earliest(POST, start), latest(POST, start)), (None, None))
            self.assertEqual((earliest(VISIT, start), latest(VISIT, start)), (None, None))

    def test_starts_of_many_digits(self):
        for by, errand in itertools.product(MUCH, ERRANDS):
            for start in (0, 10, 30, 45):
                for ask in (earliest, latest):
                    here = ask(errand, start)
                    self.assertEqual(ask(errand, start + by), None if here is None else moved(here, by))

    def test_six_steps(self):
        patterns = ((60, (0,)), (10, (1,)), (10, (2,)), (10, (3,)), (10, (4,)), (10, (5,)))
        errand = (patterns, tuple((i, i + 1, 1, 15) for i in range(5)))
        self.assertEqual(earliest(errand, 60), (60, 61, 62, 63, 64, 65))
        self.assertEqual(latest(errand, 60), (60, 71, 82, 93, 104, 115))


class EarliestFromAndLatestBy(unittest.TestCase):
    def check(self, errand, i, time):
        before = copy.deepcopy(errand)
        # If a plan has the step at all, one has it within sixty from any time on.
        plans = plans_between(errand, time - 180, time + 180)
        later = [plan for plan in plans if time <= plan[i] < time + 60]
        earlier = [plan for plan in plans if time - 60 < plan[i] <= time]
        self.assertEqual(earliest_from(errand, i, time), earliest_of(later), (errand, i, time))
        self.assertEqual(latest_by(errand, i, time), latest_of(earlier), (errand, i, time))
        self.assertEqual(errand, before)

    def test_each_step_of_small_errands(self):
        for errand in ERRANDS:
            for i in range(len(errand[0])):
                for time in (-61, 0, 17):
                    self.check(errand, i, time)

    def test_before_at_and_after_used_times(self):
        used = {0: [0, 10, 30, 40, 60], 1: [5, 20, 35, 50, 65]}
        plans = [(0, 5), (10, 20), (30, 35), (40, 50), (60, 65)]
        for i in (0, 1):
            for at in range(1, 4):
                time = used[i][at]
                for by, wanted in ((-1, plans[at]), (0, plans[at]), (1, plans[at + 1])):
                    self.assertEqual(earliest_from(POST, i, time + by), wanted)
                for by, wanted in ((-1, plans[at - 1]), (0, plans[at]), (1, plans[at])):
                    self.assertEqual(latest_by(POST, i, time + by), wanted)

    def test_the_whole_cycle_up_to_the_next_plan(self):
        errand = (((60, (7,)), (60, (12,))), ((0, 1, 5, 5),))
        for time in range(8, 68):
            self.assertEqual(earliest_from(errand, 0, time), (67, 72))
            self.assertEqual(earliest_from(errand, 1, time + 5), (67, 72))
            self.assertEqual(latest_by(errand, 0, time - 1), (7, 12))
            self.assertEqual(latest_by(errand, 1, time + 4), (7, 12))

    def test_other_steps_may_be_far_before_and_after(self):
        free = ((ANY, ANY, ANY), ())
        self.assertEqual(earliest_from(free, 0, 5), (5, -115, -115))
        self.assertEqual(earliest_from(free, 1, 5), (-115, 5, -235))
        self.assertEqual(latest_by(free, 0, 5), (5, 125, 125))
        self.assertEqual(latest_by(free, 2, 5), (125, 245, 5))

    def test_times_of_many_digits(self):
        for by, errand in itertools.product(MUCH, ERRANDS[:20]):
            for i in range(len(errand[0])):
                for ask in (earliest_from, latest_by):
                    here = ask(errand, i, 17)
                    self.assertEqual(ask(errand, i, 17 + by), None if here is None else moved(here, by))

    def test_none_exactly_for_errands_without_a_plan(self):
        for errand in NO_PLANS + ERRANDS + small_errands(60, 3, seed=4) + small_errands(60, 2, seed=4):
            steps = range(len(errand[0]))
            without = all(earliest(errand, start) is None for start in range(60))
            for i, time in itertools.product(steps, (-70, 0, 33, 10 ** 59)):
                for ask in (earliest_from, latest_by):
                    self.assertIs(ask(errand, i, time) is None, without, (errand, i, time))

    def test_errands_without_a_plan(self):
        for errand in NO_PLANS:
            self.assertEqual(plans_between(errand, 0, 59)[:1], [])
            for i in range(len(errand[0])):
                self.assertEqual((earliest_from(errand, i, 0), latest_by(errand, i, 0)), (None, None))


class Windows(unittest.TestCase):
    def check(self, errand, times):
        before = copy.deepcopy((errand, times))
        plans = plans_with(errand, times)
        wanted = [(min(column), max(column)) for column in zip(*plans)] if plans else None
        got = windows(errand, times)
        self.assertEqual(got, wanted, (errand, times))
        self.assertEqual((errand, times), before)
        if got is not None:
            self.assertEqual((type(got), [type(pair) for pair in got]), (list, [tuple] * len(errand[0])))

    def test_one_some_and_all_steps(self):
        for errand in ERRANDS:
            for base in (0, -47):
                firsts = [[t for t in range(base, base + 60) if t % p[0] in p[1]] + [base] for p in errand[0]]
                for many in range(1, len(firsts) + 1):
                    for chosen in itertools.combinations(range(len(firsts)), many):
                        self.check(errand, {step: firsts[step][0] for step in chosen})

    def test_given_steps_and_others(self):
        free = ((ANY, ANY, ANY), ())
        self.assertEqual(windows(free, {0: 5}), [(5, 5), (-115, 125), (-115, 125)])
        self.assertEqual(windows(free, {1: 5}), [(-115, 125), (5, 5), (-235, 245)])
        self.assertEqual(windows(free, {1: 5, 2: 105}), [(-15, 125), (5, 5), (105, 105)])
        self.assertEqual(windows(free, {0: 1, 1: 2, 2: 3}), [(1, 1), (2, 2), (3, 3)])
        self.assertEqual(windows(VISIT, {0: 0, 2: 25}), [(0, 0), (20, 20), (25, 25)])

    def test_none_without_a_plan(self):
        for errand, times in ((POST, {0: 20}), (POST, {0: 5}), (POST, {0: 0, 1: 20}), (VISIT, {0: 0, 1: 10}),
                              (POST, {0: 0, 1: 10 ** 59}), (VISIT, {1: 0, 2: -10 ** 3990})):
            self.assertIsNone(windows(errand, times))
        for errand in NO_PLANS:
            for step in range(len(errand[0])):
                self.assertIsNone(windows(errand, {step: 0}))

    def test_many_digits(self):
        for by in MUCH:
            self.assertEqual(windows(ROOMY, {0: by + 60}), [(by + 60, by + 60), (by + 70, by + 100)])

    def test_a_new_list_at_each_call(self):
        first = windows(ROOMY, {0: 60})
        first.append(None)
        first[0] = 7
        second = windows(ROOMY, {0: 60})
        self.assertIsNot(first, second)
        self.assertEqual(second, [(60, 60), (70, 100)])

    def test_equal_results_for_equal_arguments(self):
        self.assertEqual(windows(VISIT, {0: 0, 2: 25}), windows(copy.deepcopy(VISIT), {2: 25, 0: 0}))


class Laws(unittest.TestCase):
    def test_the_earlier_and_the_later_times_of_two_plans(self):
        for errand in ERRANDS:
            plans = plans_between(errand, -60, 59)[::7]
            for one, other in itertools.combinations(plans[:40], 2):
                for choose in (min, max):
                    self.assertIs(is_plan(errand, tuple(map(choose, zip(one, other)))), True)

    def test_moved_by_sixty(self):
        for errand in ERRANDS:
            for plan in plans_between(errand, 0, 59)[::11]:
                for many in (-3, -1, 1, 2, 10 ** 58):
                    self.assertIs(is_plan(errand, moved(plan, 60 * many)), True)
            for i in range(len(errand[0])):
                for ask in (earliest_from, latest_by):
                    plan = ask(errand, i, 13)
                    self.assertEqual(ask(errand, i, 73), plan and moved(plan, 60))
            for time in (0, 17):
                for ask in (earliest, latest):
                    plan = ask(errand, time)
                    self.assertEqual(ask(errand, time - 60), plan and moved(plan, -60))

    def test_the_mirrored_errand(self):
        for errand in ERRANDS + NO_PLANS:
            turned = mirrored(errand)
            for start in range(-30, 31):
                self.assertEqual(latest(turned, -start), mirrored_times(earliest(errand, start)))
                self.assertEqual(earliest(turned, -start), mirrored_times(latest(errand, start)))
            for i, time in itertools.product(range(len(errand[0])), (-20, 0, 33)):
                self.assertEqual(latest_by(turned, i, -time), mirrored_times(earliest_from(errand, i, time)))
                self.assertEqual(earliest_from(turned, i, -time), mirrored_times(latest_by(errand, i, time)))
                ends = windows(errand, {i: time})
                wanted = None if ends is None else [(-last, -first) for first, last in ends]
                self.assertEqual(windows(turned, {i: -time}), wanted)

    def test_the_ends_are_plans_with_the_times(self):
        for errand in ERRANDS:
            for start in range(0, 60):
                for plan in (earliest(errand, start), latest(errand, start)):
                    if plan is not None:
                        self.assertEqual((type(plan), is_plan(errand, plan), plan[0]), (tuple, True, start))
                self.assertEqual(earliest(errand, start), find_plan(errand, {0: start}))


if __name__ == "__main__":
    unittest.main()

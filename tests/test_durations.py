"""Point 11: durations."""

import copy
import itertools
import unittest

from slotgaps.durations import find_duration, longest, shortest
from slotgaps.ends import windows
from slotgaps.errands import mirrored
from slotgaps.plans import is_plan
from slotgaps.starts import good_starts
from tests.samples import ANY, CYCLES, MUCH, NEVER, NO_PLANS, POST, VISIT
from tests.search import dense_errands, is_plan_by_words, knotted_errands, plans_of_an_hour, small_errands

FREE = ((ANY, ANY, ANY), ())
FIXED = [POST, VISIT] + CYCLES
KNOTS = dense_errands(20, seed=7)
KNOTS += [errand for steps in range(1, 7) for errand in knotted_errands(25, steps, seed=7)]


def pairs(errand):
    return list(itertools.product(range(len(errand[0])), repeat=2))


class Examples(unittest.TestCase):
    def test_all(self):
        got = [shortest(POST, 0, 1), longest(POST, 0, 1), find_duration(POST, 0, 1, 7)]
        self.assertEqual(got, [5, 10, None])


class BySearch(unittest.TestCase):
    @classmethod
    def setUpClass(cls):
        errands = FIXED + KNOTS + small_errands(15, 2) + small_errands(15, 3)
        cls.hours = [(errand, plans_of_an_hour(errand)) for errand in errands]

    def test_there_are_errands_of_each_kind(self):
        full = [plans for errand, plans in self.hours if len(errand[1]) == 8]
        self.assertGreater(sum(bool(plans) for plans in full), 5)
        self.assertGreater(sum(not plans for plans in full), 5)
        for steps in range(2, 7):
            self.assertGreater(sum(len(errand[0]) == steps and bool(plans) for errand, plans in self.hours), 8)

    def test_shortest_and_longest(self):
        for errand, plans in self.hours:
            before = copy.deepcopy(errand)
            for i, j in pairs(errand):
                gaps = {plan[j] - plan[i] for plan in plans}
                wanted = (min(gaps), max(gaps)) if gaps else (None, None)
                got = (shortest(errand, i, j), longest(errand, i, j))
                self.assertEqual(got, wanted, (errand, i, j))
                self.assertEqual([type(gap) for gap in got], [type(gap) for gap in wanted])
            self.assertEqual(errand, before)

    def check_duration(self, errand, i, j, duration, exists):
        got = find_duration(errand, i, j, duration)
        self.assertIs(got is not None, exists, (errand, i, j, duration))
        if exists:
            self.assertIs(type(got), tuple)
            self.assertEqual(got[j] - got[i], duration)
            self.assertTrue(is_plan_by_words(errand, got))
            self.assertEqual(find_duration(copy.deepcopy(errand), i, j, duration), got)

    def test_durations_at_the_ends_and_beyond(self):
        for errand, plans in self.hours:
            before = copy.deepcopy(errand)
            for i, j in pairs(errand):
                gaps = {plan[j] - plan[i] for plan in plans}
                for end in (min(gaps, default=0), max(gaps, default=0)):
                    for duration in range(end - 1, end + 2):
                        self.check_duration(errand, i, j, duration, duration in gaps)
            self.assertEqual(errand, before)

    def test_all_durations(self):
        for errand, plans in self.hours[::12]:
            for i, j in pairs(errand):
                gaps = {plan[j] - plan[i] for plan in plans}
                for duration in range(-245, 246):
                    self.check_duration(errand, i, j, duration, duration in gaps)


class Durations(unittest.TestCase):
    def test_from_a_step_to_itself(self):
        for errand in FIXED + KNOTS[::4] + [FREE]:
            can = bool(good_starts(errand)[1])
            for i in range(len(errand[0])):
                self.assertEqual((shortest(errand, i, i), longest(errand, i, i)), (0, 0) if can else (None, None))
                plan = find_duration(errand, i, i, 0)
                self.assertIs(plan is not None and is_plan(errand, plan), can)
                for duration in (-120, -60, -1, 1, 10, 60, 10 ** 59, -10 ** 3990):
                    self.assertIsNone(find_duration(errand, i, i, duration))

    def test_without_a_plan(self):
        for errand in NO_PLANS:
            for i, j in pairs(errand):
                self.assertEqual((shortest(errand, i, j), longest(errand, i, j)), (None, None))
                for duration in (-120, -5, 0, 1, 5, 120, 10 ** 59):
                    self.assertIsNone(find_duration(errand, i, j, duration))

    def test_the_span(self):
        for i, j, most in ((0, 1, 120), (1, 0, 120), (2, 0, 120), (1, 2, 240), (2, 1, 240)):
            self.assertEqual((shortest(FREE, i, j), longest(FREE, i, j)), (-most, most))
            for duration in (-most, 1 - most, -1, 0, 7, most - 1, most):
                plan = find_duration(FREE, i, j, duration)
                self.assertEqual((plan[j] - plan[i], is_plan(FREE, plan)), (duration, True))
            for duration in (-most - 60, -most - 1, most + 1, most + 60):
                self.assertIsNone(find_duration(FREE, i, j, duration))

    def test_durations_of_many_digits(self):
        for errand in FIXED + NO_PLANS + [FREE]:
            for i, j in pairs(errand):
                for duration in MUCH:
                    self.assertIsNone(find_duration(errand, i, j, duration + 5))

    def test_waits_set_the_ends(self):
        for low, high in ((-7, 12), (0, 0), (3, 3), (-120, -100), (-50, 120)):
            errand = ((ANY, ANY), ((0, 1, low, high),))
            self.assertEqual((shortest(errand, 0, 1), longest(errand, 0, 1)), (low, high))
            self.assertEqual((shortest(errand, 1, 0), longest(errand, 1, 0)), (-high, -low))
            turned = ((ANY, ANY), ((1, 0, low, high),))
            self.assertEqual((shortest(turned, 0, 1), longest(turned, 0, 1)), (-high, -low))
        errand = ((ANY, ANY, ANY), ((0, 1, 5, 9), (1, 2, 10, 20)))
        self.assertEqual((shortest(errand, 0, 2), longest(errand, 0, 2)), (15, 29))
        self.assertEqual((shortest(errand, 2, 0), longest(errand, 2, 0)), (-29, -15))

    def test_open_times_set_the_ends(self):
        errand = (((60, (0, 25)), (60, (7, 30))), ((0, 1, 1, 40),))
        self.assertEqual([d for d in range(-120, 121) if find_duration(errand, 0, 1, d)], [5, 7, 30])
        self.assertEqual((shortest(errand, 0, 1), longest(errand, 0, 1)), (5, 30))
        self.assertEqual(find_duration(errand, 1, 0, -5)[1] % 60, 30)

    def test_each_time_of_the_hour_counts(self):
        for late in (0, 1, 30, 58, 59):
            times = tuple(sorted({late, (late + 20) % 60}))
            errand = (((60, times), (60, ((late + 3) % 60,))), ((0, 1, 1, None),))
            self.assertEqual((shortest(errand, 0, 1), longest(errand, 0, 1)), (3, 103))
            self.assertEqual(find_duration(errand, 0, 1, 43)[0] % 60, (late + 20) % 60)
            self.assertEqual(find_duration(errand, 0, 1, 3)[0] % 60, late)

    def test_a_step_without_times(self):
        errand = ((ANY, NEVER, ANY), ())
        for i, j in pairs(errand):
            self.assertEqual((shortest(errand, i, j), longest(errand, i, j)), (None, None))
            self.assertIsNone(find_duration(errand, i, j, 0))


class Agreement(unittest.TestCase):
    def test_exact(self):
        for errand in FIXED + KNOTS:
            for i, j in pairs(errand):
                for gap, by in ((shortest(errand, i, j), -1), (longest(errand, i, j), 1)):
                    if gap is not None:
                        self.assertIs(is_plan(errand, find_duration(errand, i, j, gap)), True)
                        self.assertIsNone(find_duration(errand, i, j, gap + by))

    def test_to_and_fro(self):
        for errand in FIXED + KNOTS:
            turned = mirrored(errand)
            for i, j in pairs(errand):
                gap = longest(errand, j, i)
                self.assertEqual(shortest(errand, i, j), None if gap is None else -gap)
                self.assertEqual(shortest(turned, j, i), shortest(errand, i, j))
                self.assertEqual(longest(turned, j, i), longest(errand, i, j))

    def test_windows_lie_within(self):
        for errand in FIXED + KNOTS[::6]:
            for i, j in pairs(errand):
                found = [windows(errand, {i: time}) for time in range(60)]
                found = [ends for ends in found if ends is not None]
                self.assertEqual(shortest(errand, i, j), min((w[j][0] - w[i][0] for w in found), default=None))
                self.assertEqual(longest(errand, i, j), max((w[j][1] - w[i][1] for w in found), default=None))


if __name__ == "__main__":
    unittest.main()

"""Point 15: comparing errands."""

import copy
import itertools
import random
import unittest

from slotgaps.comparing import are_equivalent, find_difference, used_times
from slotgaps.needless import find_breach, trimmed, without
from slotgaps.patterns import contains
from slotgaps.plans import find_plan, is_plan
from slotgaps.starts import good_starts
from tests.samples import ANY, CYCLES, MUCH, NEVER, NO_PLANS, POST, VISIT, is_smallest_of
from tests.search import (
    dense_errands, is_plan_by_words, knotted_errands, near_wait, plans_from, plans_of_an_hour, small_errands)

KNOTS = dense_errands(16, seed=11)
KNOTS += [errand for steps in range(1, 7) for errand in knotted_errands(22, steps, seed=11)]
ERRANDS = [POST, VISIT] + CYCLES + KNOTS + small_errands(20, 2, seed=11) + small_errands(10, 3, seed=11)
SAME_AS_POST = (((30, (0, 10)), (60, (5, 20, 35, 50))), ((0, 1, 5, 10),))


def hour_long(pattern):
    """The same times with the period 60."""
    return (60, tuple(t for t in range(60) if t % pattern[0] in pattern[1]))


def with_pattern(errand, step, times):
    patterns = list(errand[0])
    patterns[step] = (60, tuple(sorted(times)))
    return (tuple(patterns), errand[1])


def variants(errand, chance):
    """Errands that are nearly the given one: some of them have the same plans."""
    patterns, waits = errand
    step = chance.randrange(len(patterns))
    times = hour_long(patterns[step])[1]
    yield (tuple(hour_long(pattern) for pattern in patterns), waits[::-1])
    yield with_pattern(errand, step, set(times) | {chance.randrange(60)})
    yield with_pattern(errand, step, times[:-1])
    yield with_pattern(errand, step, times[1:])
    yield (patterns, waits[:chance.randint(0, len(waits))])
    if len(patterns) > 1:
        yield (patterns, waits[:7] + (near_wait(chance, [chance.randint(-40, 40) for _ in patterns]),))
    if waits:
        i, j, low, high = waits[-1]
        by = chance.choice((-9, -1, 1, 9))
        changed = (None if low is None else min(120, max(-120, low + by)), high)
        if None in changed or changed[0] <= changed[1]:
            yield (patterns, waits[:-1] + ((i, j) + changed,))


class Examples(unittest.TestCase):
    def test_used_times(self):
        self.assertEqual([used_times(POST, 0), used_times(POST, 1), used_times(VISIT, 1)],
                         [(30, (0, 10)), (15, (5,)), (60, (20,))])

    def test_are_equivalent(self):
        self.assertIs(are_equivalent(POST, (((30, (0, 10)), (60, (5, 20, 35, 50))), ((0, 1, 5, 10),))), True)


class BySearch(unittest.TestCase):
    def check(self, errand, other, wanted):
        """Compare with the answer of a search, both ways round."""
        before = copy.deepcopy((errand, other))
        for one, two in ((errand, other), (other, errand)):
            self.assertIs(are_equivalent(one, two), wanted, (one, two))
            plan = find_difference(one, two)
            self.assertIs(plan is None, wanted, (one, two))
            if plan is not None:
                self.assertIs(type(plan), tuple)
                self.assertNotEqual(is_plan_by_words(one, plan), is_plan_by_words(two, plan))
                self.assertEqual(find_difference(copy.deepcopy(one), copy.deepcopy(two)), plan)
        self.assertEqual((errand, other), before)

    def test_errands_and_their_variants(self):
        chance = random.Random(11)
        answers = {}
        for errand in ERRANDS:
            plans = plans_of_an_hour(errand)
            for other in variants(errand, chance):
                wanted = plans_of_an_hour(other) == plans
                self.check(errand, other, wanted)
                answers[len(errand[0]), wanted] = answers.get((len(errand[0]), wanted), 0) + 1
        self.assertEqual(sorted(answers), list(itertools.product(range(1, 7), (False, True))))
        self.assertGreater(min(answers.values()), 20)

    def test_pairs_of_other_errands(self):
        for steps in range(1, 7):
            hours = [(errand, plans_of_an_hour(errand)) for errand in ERRANDS if len(errand[0]) == steps][:12]
            for (errand, plans), (other, others) in itertools.combinations(hours, 2):
                self.check(errand, other, plans == others)

    def test_used_times(self):
        for errand in ERRANDS:
            before = copy.deepcopy(errand)
            plans = plans_of_an_hour(errand)
            for step in range(len(errand[0])):
                used = {plan[step] % 60 for plan in plans}
                got = used_times(errand, step)
                self.assertTrue(is_smallest_of(got, lambda t: t in used), (errand, step, got))
                self.assertEqual(used_times(copy.deepcopy(errand), step), got)
            self.assertEqual(errand, before)


class Comparing(unittest.TestCase):
    def check(self, errand, other, wanted):
        for one, two in ((errand, other), (other, errand)):
            self.assertIs(are_equivalent(one, two), wanted)
            plan = find_difference(one, two)
            self.assertIs(plan is None, wanted)
            if plan is not None:
                self.assertNotEqual(is_plan(one, plan), is_plan(two, plan))

    def test_the_same_errand(self):
        for errand in ERRANDS + NO_PLANS:
            self.check(errand, copy.deepcopy(errand), True)

    def test_no_plans(self):
        for errand, other in itertools.product(NO_PLANS, repeat=2):
            if len(errand[0]) == len(other[0]):
                self.check(errand, other, True)
        self.check(POST, (POST[0], ((0, 1, 6, 9),)), False)
        self.check(((ANY,), ()), ((NEVER,), ()), False)

    def test_alike_patterns(self):
        self.check((((10, (0, 5)),), ()), (((5, (0,)),), ()), True)
        self.check((((60, tuple(range(60))), NEVER), ()), ((ANY, (1, ())), ()), True)
        self.check((((2, (0, 1)), ANY), ()), ((ANY, (2, (0, 1))), ()), True)

    def test_open_times_that_no_plan_has(self):
        self.check(POST, SAME_AS_POST, True)
        self.check(VISIT, (((60, (0,)), (60, (20,)), (60, (25,))), ()), False)
        self.check(VISIT, (((60, (0,)), (60, (20,)), (60, (25,))), ((0, 1, 20, 20), (1, 2, 5, 5))), True)
        self.check(((ANY, NEVER), ()), ((NEVER, ANY), ()), True)

    def test_one_open_time_more_in_any_step(self):
        for steps in range(1, 7):
            for step, time in itertools.product(range(steps), (0, 1, 31, 59)):
                errand = ((ANY,) * steps, ((0, 1, 0, 0),) if steps > 1 else ())
                other = with_pattern(errand, step, [t for t in range(60) if t != time])
                self.check(errand, other, False)
                plan = find_difference(errand, other)
                self.assertIs(is_plan(errand, plan), True)
                self.assertEqual(plan[step] % 60, time)

    def test_limits_that_differ_by_1(self):
        for i, j in itertools.permutations(range(3), 2):
            for low, high in ((-7, 12), (3, 3), (-100, None), (None, 100)):
                errand = ((ANY, ANY, ANY), ((i, j, low, high),))
                if low is not None:
                    self.check(errand, ((ANY, ANY, ANY), ((i, j, low - 1, high),)), False)
                if high is not None:
                    self.check(errand, ((ANY, ANY, ANY), ((i, j, low, high + 1),)), False)

    def test_the_same_waits_said_in_other_ways(self):
        pair = (ANY, (5, (1,)))
        self.check((pair, ((0, 1, 3, 12),)), (pair, ((1, 0, -12, -3),)), True)
        self.check((pair, ((0, 1, 3, 12),)), (pair, ((0, 1, None, 12), (0, 1, 3, None))), True)
        self.check((pair, ((0, 1, 3, 12),) * 8), (pair, ((0, 1, 3, 12),)), True)
        self.check((pair, ((0, 1, -120, 120),)), (pair, ()), True)
        self.check((pair, ((0, 1, -119, 120),)), (pair, ()), False)

    def test_waits_that_open_times_make_alike(self):
        pair = ((10, (0,)), (10, (5,)))
        self.check((pair, ((0, 1, 0, 9),)), (pair, ((0, 1, -4, 14),)), True)
        self.check((pair, ((0, 1, 0, 9),)), (pair, ((0, 1, -5, 14),)), False)
        self.check((pair, ((0, 1, 0, 9),)), (pair, ((0, 1, -4, 15),)), False)

    def test_plans_of_either_one(self):
        least, most = ((ANY, ANY), ((0, 1, 5, None),)), ((ANY, ANY), ((0, 1, None, 9),))
        self.check(least, most, False)
        both = ((ANY, ANY), ((0, 1, 5, 9),))
        for errand in (least, most):
            self.check(errand, both, False)
            self.assertIs(is_plan(errand, find_difference(errand, both)), True)
            self.assertIs(is_plan(errand, find_difference(both, errand)), True)


class UsedTimes(unittest.TestCase):
    def test_without_a_plan(self):
        for errand in NO_PLANS:
            for step in range(len(errand[0])):
                self.assertEqual(used_times(errand, step), (1, ()))

    def test_each_step(self):
        self.assertEqual([used_times(VISIT, step) for step in range(3)], [(60, (0,)), (60, (20,)), (60, (25,))])
        self.assertEqual(used_times((((10, (0, 5)),), ()), 0), (5, (0,)))
        errand = ((ANY,) * 5 + ((4, (1,)),), ((4, 5, 2, 2),))
        self.assertEqual([used_times(errand, step) for step in range(6)], [ANY] * 4 + [(4, (3,)), (4, (1,))])

    def test_times_of_many_digits(self):
        for by in MUCH:
            for errand in (POST, VISIT, CYCLES[0], CYCLES[2]):
                used = used_times(errand, 0)
                for start in range(by - 2, by + 13):
                    self.assertIs(contains(used, start), bool(plans_from(errand, start)))


class Agreement(unittest.TestCase):
    def test_used_times_are_those_with_a_plan(self):
        for errand in ERRANDS[::3] + NO_PLANS:
            self.assertEqual(used_times(errand, 0), good_starts(errand))
            for step in range(len(errand[0])):
                used = used_times(errand, step)
                for time in range(-3, 63):
                    self.assertIs(contains(used, time), find_plan(errand, {step: time}) is not None)

    def test_used_times_instead_of_the_patterns(self):
        for errand in ERRANDS + NO_PLANS:
            patterns = tuple(used_times(errand, step) for step in range(len(errand[0])))
            self.assertIs(are_equivalent(errand, (patterns, errand[1])), True)

    def test_trimmed_errands(self):
        for errand in ERRANDS:
            self.assertIs(are_equivalent(errand, trimmed(errand)), True)
            for w in range(len(errand[1])):
                same = are_equivalent(errand, without(errand, (w,)))
                self.assertIs(same, find_breach(errand, w) is None)


if __name__ == "__main__":
    unittest.main()

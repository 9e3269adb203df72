"""Point 7: plans."""

import copy
import itertools
import unittest

from slotgaps.ends import windows
from slotgaps.plans import find_plan, is_plan
from slotgaps.refutations import find_refutation
from tests.samples import HUGE, POST, VISIT, nested, other_values
from tests.search import earliest_of, is_plan_by_words, moved, plans_from, plans_with, small_errands

ANY = (1, (0,))
NEVER = (1, ())
LONE = (((10, (0,)),), ())
FREE = ((ANY, ANY, ANY), ())


class Examples(unittest.TestCase):
    def test_is_plan(self):
        self.assertEqual([is_plan(POST, (0, 5)), is_plan(POST, (20, 35)), is_plan(POST, (60, 65))],
                         [True, False, True])

    def test_find_plan(self):
        got = [find_plan(POST, {1: 20}), find_plan(VISIT, {0: 0, 1: 10}), find_plan(VISIT, {0: 0, 2: 25})]
        self.assertEqual(got, [(10, 20), None, (0, 20, 25)])


class IsPlan(unittest.TestCase):
    def check(self, errand, value, wanted):
        before = copy.deepcopy((errand, value))
        self.assertIs(is_plan(errand, value), wanted)
        self.assertEqual((errand, value), before)

    def test_all_small_times(self):
        for times in itertools.product(range(-35, 66, 5), range(-45, 81, 5)):
            self.check(POST, times, is_plan_by_words(POST, times))
        for times in itertools.product(range(-60, 61, 30), range(-30, 101, 5), range(-35, 131, 5)):
            self.check(VISIT, times, is_plan_by_words(VISIT, times))

    def test_times_that_are_not_open(self):
        for plan in ((0, 20, 25), (60, 80, 85), (-60, -40, -35)):
            self.check(VISIT, plan, True)
            for step, by in itertools.product(range(3), (-1, 1)):
                times = list(plan)
                times[step] += by
                self.check(VISIT, tuple(times), False)

    def test_each_step_is_open(self):
        for step in range(6):
            patterns = [ANY] * 6
            patterns[step] = (60, (7,))
            for time in (6, 7, 8, 67):
                times = [1] * 6
                times[step] = time
                self.check((tuple(patterns), ()), tuple(times), time in (7, 67))

    def test_a_pattern_without_times(self):
        self.check(((NEVER,), ()), (0,), False)
        self.check(((ANY, NEVER), ()), (0, 0), False)

    def test_each_wait_holds(self):
        for place in range(8):
            waits = [(0, 1, -100, 100)] * 8
            waits[place] = (2, 1, 3, 12)
            for gap in (2, 3, 12, 13):
                self.check(((ANY, ANY, ANY), tuple(waits)), (0, gap - 5, -5), 3 <= gap <= 12)

    def test_limits_of_a_wait(self):
        for low, high in ((3, 12), (3, None), (None, 12), (-4, -2), (0, 0), (None, 0), (120, 120), (-120, None)):
            for i, j in ((0, 1), (1, 0)):
                for times in itertools.product((7, 60), range(-125, 190)):
                    errand = ((ANY, ANY), ((i, j, low, high),))
                    self.check(errand, times, is_plan_by_words(errand, times))

    def test_120_from_step_0_and_one_beyond(self):
        for start in (0, 33, -500, 10 ** 60):
            for gap in (-121, -120, 120, 121):
                wanted = abs(gap) == 120
                self.check(((ANY, ANY), ()), (start, start + gap), wanted)
                self.check(FREE, (start, start, start + gap), wanted)
                self.check(FREE, (start, start + gap, start), wanted)
                self.check(FREE, (start, start + gap, start - gap), wanted)

    def test_a_wait_does_not_lift_the_span(self):
        self.check(((ANY, ANY), ((0, 1, 100, None),)), (0, 120), True)
        self.check(((ANY, ANY), ((0, 1, 100, None),)), (0, 121), False)

    def test_one_step(self):
        for time in range(-25, 26):
            self.check(LONE, (time,), time % 10 == 0)

    def test_times_of_many_digits(self):
        for much in (60 * 10 ** 58, -60 * 10 ** 58, 60 * 10 ** 3990, -60 * 10 ** 3990):
            self.check(POST, (much + 10, much + 20), True)
            self.check(POST, (much + 10, much + 35), False)
            self.check(POST, (much, 5), False)
            self.check(FREE, (much, 0, much), False)
        self.check(((ANY,), ()), (HUGE,), True)
        self.check(((ANY, ANY), ()), (HUGE, -HUGE), False)

    def test_tuples_alone(self):
        for value in ([0, 5], {0: 0, 1: 5}, {0: 5}, "05", "ab", "", b"\x00\x05", None, 0, 5, True, [(0, 5)], ((0, 5),),
                      ([0, 5],), [], {}, ()):
            self.check(POST, value, False)
        for value in ([0], {0: 0}, "0", 0, None, False, [], (), ((0,),)):
            self.check(LONE, value, False)

    def test_other_lengths(self):
        for steps in range(1, 7):
            errand = ((ANY,) * steps, ())
            for length in list(range(9)) + [20000]:
                self.check(errand, (0,) * length, length == steps)

    def test_integers_alone(self):
        self.check(((ANY,), ()), (True,), False)
        self.check(((ANY,), ()), (False,), False)
        for instead in (True, False, None, "0", "", b"", (), (0,), [], [0], {}, {0: 0}, nested(20)):
            for step in range(3):
                times = [0, 0, 0]
                times[step] = instead
                self.check(FREE, tuple(times), False)

    def test_values_of_any_kind_and_depth(self):
        for errand in (POST, LONE, ((ANY,), ()), FREE):
            for value in other_values():
                wanted = isinstance(value, tuple) and len(value) == len(errand[0]) and all(
                    type(t) is int for t in value) and is_plan_by_words(errand, value)
                self.check(errand, value, wanted)
                self.check(errand, (value, 0), False)
                self.check(errand, [value] * 3, False)

    def test_values_that_the_library_returned(self):
        plan = find_plan(VISIT, {0: 0})
        for value in (windows(VISIT, {0: 0}), tuple(windows(VISIT, {0: 0})), windows(VISIT, {0: 0})[0],
                      find_refutation(VISIT, {0: 1}), tuple(find_refutation(VISIT, {0: 1})), VISIT, VISIT[0],
                      list(plan), plan + plan, plan[:2], plan[::-1], plan * 1000, (plan,), (plan, plan, plan)):
            self.check(VISIT, value, False)
        self.check(VISIT, plan, True)
        self.check(VISIT, plan[:1] + plan[1:], True)


class FindPlan(unittest.TestCase):
    def check(self, errand, times):
        """Compare with a search over all plans, and return whether there is one."""
        before = copy.deepcopy((errand, times))
        got = find_plan(errand, times)
        self.assertEqual(got, earliest_of(plans_with(errand, times)), (errand, times))
        self.assertEqual((errand, times), before)
        if got is not None:
            self.assertIs(type(got), tuple)
            self.assertIs(is_plan(errand, got), True)
        return got is not None

    def check_open(self, errand, base):
        """Check times for each choice of steps: open ones from a time on."""
        steps = range(len(errand[0]))
        firsts = [[t for t in range(base, base + 60) if t % p[0] in p[1]] + [base] for p in errand[0]]
        found = 0
        for many in range(1, len(steps) + 1):
            for chosen in itertools.combinations(steps, many):
                found += self.check(errand, {step: firsts[step][0] for step in chosen})
        return found

    def test_one_some_and_all_steps(self):
        found = self.check_open(POST, 0) + self.check_open(VISIT, 0) + self.check_open(VISIT, -60)
        for errand in small_errands(40, 2) + small_errands(40, 3) + small_errands(4, 4):
            found += self.check_open(errand, 0) + self.check_open(errand, -37)
        self.assertGreater(found, 200)

    def test_the_times_of_every_plan_give_it(self):
        for errand in small_errands(15, 3, seed=2):
            for start in range(60):
                for plan in plans_from(errand, start)[:5]:
                    self.assertEqual(find_plan(errand, dict(enumerate(plan))), plan)

    def test_the_earliest_one_of_several(self):
        errand = (((60, (0,)), (10, (0,)), (12, (5,))), ((0, 1, 5, 40), (1, 2, None, 30)))
        self.assertEqual(find_plan(errand, {0: 0}), (0, 10, -115))
        self.assertEqual(find_plan(errand, {2: -31}), (-60, -50, -31))
        self.assertEqual(find_plan(errand, {0: 0, 2: 53}), (0, 30, 53))
        self.assertEqual(find_plan(errand, {2: 53}), (0, 30, 53))
        self.assertEqual(find_plan(FREE, {1: 7}), (-113, 7, -233))

    def test_times_that_are_not_open(self):
        for time in range(-30, 31):
            self.assertEqual(find_plan(LONE, {0: time}), (time,) if time % 10 == 0 else None)
            self.check(POST, {0: time})
            self.check(POST, {1: time})
        self.assertIsNone(find_plan(VISIT, {0: 0, 1: 21}))
        self.assertIsNone(find_plan(VISIT, {0: 0, 1: 20, 2: 26}))

    def test_at_120_and_beyond(self):
        for step in (0, 1):
            for gap in (-121, -120, 120, 121):
                wanted = None if abs(gap) > 120 else (7, 7 + gap) if step == 0 else (7 + gap, 7)
                self.assertEqual(find_plan(((ANY, ANY), ()), {step: 7, 1 - step: 7 + gap}), wanted)
        self.assertEqual(find_plan(FREE, {1: 0, 2: 240}), (120, 0, 240))
        self.assertIsNone(find_plan(FREE, {1: 0, 2: 241}))

    def test_times_far_apart(self):
        much = 10 ** 59
        for errand in (POST, VISIT, FREE, ((ANY, ANY, ANY), ((1, 2, 5, None), (2, 1, 5, None)))):
            for one, other in itertools.permutations(range(len(errand[0])), 2):
                for gap in (300, much, 60 * 10 ** 3990):
                    self.assertIsNone(find_plan(errand, {one: 0, other: gap}))
                    self.assertIsNone(find_plan(errand, {one: -gap, other: gap}))

    def test_negative_times_and_many_digits(self):
        for by in (-60, -600, 60 * 10 ** 58, -60 * 10 ** 58, 60 * 10 ** 3990, -60 * 10 ** 3990):
            for errand in [POST, VISIT] + small_errands(10, 3, seed=3):
                for step, time in itertools.product(range(len(errand[0])), (0, 5, 25, 30)):
                    here = find_plan(errand, {step: time})
                    self.assertEqual(find_plan(errand, {step: by + time}), None if here is None else moved(here, by))

    def test_one_step(self):
        for pattern in ((60, (7, 8)), ANY, (12, (1, 2, 7)), (60, ())):
            for time in range(-61, 70):
                wanted = (time,) if time % pattern[0] in pattern[1] else None
                self.assertEqual(find_plan(((pattern,), ()), {0: time}), wanted)

    def test_without_waits(self):
        patterns = ((10, (3,)), (12, (5,)), (60, (0,)), (1, (0,)), (15, (14,)), (20, (7,)))
        self.assertEqual(find_plan((patterns, ()), {0: 3}), (3, -115, -60, -117, -106, -113))
        self.assertEqual(find_plan((patterns, ()), {2: 60}), (-57, -175, 60, -177, -166, -173))

    def test_patterns_without_times(self):
        for many in (1, 2, 3):
            for empty in range(many):
                patterns = [ANY] * many
                patterns[empty] = (60, ())
                for step in range(many):
                    self.assertIsNone(find_plan((tuple(patterns), ()), {step: 0}))
                    self.assertIsNone(find_plan((tuple(patterns), ((0, 1, 5, 5),) * (many > 1)), {step: -7}))
                self.assertIsNone(find_plan((tuple(patterns), ()), {step: step for step in range(many)}))

    def test_waits_that_push_up(self):
        chain = tuple((i, i + 1, 20, None) for i in range(5))
        errand = (((60, (0,)),) + (ANY,) * 5, chain)
        self.assertEqual(find_plan(errand, {0: 0}), (0, 20, 40, 60, 80, 100))
        self.assertEqual(find_plan(errand, {0: 0, 3: 61}), (0, 20, 40, 61, 81, 101))
        self.assertEqual(find_plan(errand, {0: 0, 5: 120}), (0, 20, 40, 60, 80, 120))
        self.assertIsNone(find_plan(errand, {0: 0, 3: 59}))
        self.assertIsNone(find_plan(errand, {0: 0, 1: 41}))
        self.assertEqual(find_plan(((ANY, ANY), ((1, 0, None, -3),)), {0: 0}), (0, 3))
        self.assertEqual(find_plan(((ANY, ANY), ((0, 1, 120, None),)), {0: 0}), (0, 120))
        self.assertEqual(find_plan(((ANY, ANY), ((0, 1, 120, None),)), {1: 0}), (-120, 0))

    def test_a_later_open_time_pushes_back(self):
        errand = ((ANY, ANY, (60, (30,))), ((1, 2, 0, 10), (0, 1, 1, None)))
        self.assertEqual(find_plan(errand, {0: 5}), (5, 20, 30))
        self.assertEqual(find_plan(errand, {0: 30}), (30, 80, 90))
        self.assertEqual(find_plan(errand, {0: 29}), (29, 30, 30))

    def test_waits_that_contradict(self):
        for waits in (((1, 2, 1, None), (2, 1, 0, None)), ((1, 2, 1, None), (1, 2, None, 0)),
                      ((1, 2, 5, 5), (1, 2, 6, 6)), ((0, 1, 100, None), (1, 2, 100, None), (2, 0, None, -100)),
                      ((1, 2, 1, None), (2, 0, 1, None), (0, 1, 1, None))):
            for step, time in itertools.product(range(3), (0, -600, 10 ** 60)):
                self.assertIsNone(find_plan(((ANY,) * 3, waits), {step: time}))
                self.assertIsNone(find_plan((((5, (0,)),) * 3, waits), {step: time}))

    def test_equal_results_for_equal_arguments(self):
        one = find_plan(VISIT, {0: 0, 2: 25})
        self.assertEqual(one, find_plan(VISIT, {2: 25, 0: 0}))
        self.assertEqual(one, find_plan(copy.deepcopy(VISIT), {0: 0, 2: 25}))


if __name__ == "__main__":
    unittest.main()

"""Point 13: needless waits."""

import copy
import itertools
import unittest

from slotgaps.errands import is_errand
from slotgaps.needless import find_breach, trimmed, without
from slotgaps.plans import is_plan
from slotgaps.starts import good_starts
from tests.samples import ANY, CYCLES, NO_PLANS, POST, VISIT
from tests.search import (
    dense_errands, held_together, holds, is_plan_by_words, knotted_errands, plans_of_an_hour, sets_of_waits,
    small_errands)

EIGHT = ((ANY,) * 3, tuple((w % 3, (w + 1) % 3, -w, 7 * w) for w in range(8)))
KNOTS = dense_errands(20, seed=9)
KNOTS += [errand for steps in range(1, 7) for errand in knotted_errands(25, steps, seed=9)]


def left_by_words(waits, drops):
    return tuple(wait for w, wait in enumerate(waits) if w not in drops)


class Examples(unittest.TestCase):
    def test_find_breach(self):
        self.assertIsNone(find_breach((VISIT[0], VISIT[1] + ((0, 2, 6, 60),)), 2))

    def test_trimmed(self):
        self.assertIs(trimmed((VISIT[0], VISIT[1] + ((0, 2, 6, 60),))) == VISIT, True)

    def test_without(self):
        self.assertEqual(without(VISIT, (0,)), (((60, (0,)), (10, (0,)), (30, (25,))), ((1, 2, 1, 10),)))


class Without(unittest.TestCase):
    def test_all_sets_of_waits(self):
        for errand in (POST, VISIT, EIGHT):
            before = copy.deepcopy(errand)
            for drops in sets_of_waits(errand):
                got = without(errand, drops)
                self.assertEqual(got, (errand[0], left_by_words(errand[1], drops)))
                self.assertEqual((type(got), type(got[1]), is_errand(got)), (tuple, tuple, True))
            self.assertEqual(errand, before)

    def test_none_and_all(self):
        for errand in KNOTS + NO_PLANS:
            self.assertEqual(without(errand, ()), errand)
            self.assertEqual(without(errand, tuple(range(len(errand[1])))), (errand[0], ()))

    def test_the_same_wait_twice(self):
        wait, other = (0, 1, 3, 12), (1, 0, None, 4)
        errand = ((ANY, ANY), (wait, other, wait))
        self.assertEqual(without(errand, (0,)), ((ANY, ANY), (other, wait)))
        self.assertEqual(without(errand, (2,)), ((ANY, ANY), (wait, other)))
        self.assertEqual(without(errand, (0, 2)), ((ANY, ANY), (other,)))


class BySearch(unittest.TestCase):
    @classmethod
    def setUpClass(cls):
        errands = [POST, VISIT] + CYCLES + KNOTS + small_errands(30, 2, seed=9) + small_errands(10, 3, seed=9)
        cls.errands = [(errand, held_together(errand)) for errand in errands]

    def test_find_breach(self):
        answers = {}
        for errand, together in self.errands:
            before = copy.deepcopy(errand)
            for w, wait in enumerate(errand[1]):
                rest = frozenset(range(len(errand[1]))) - {w}
                got = find_breach(errand, w)
                self.assertIs(got is None, rest not in together, (errand, w))
                if got is not None:
                    self.assertIs(type(got), tuple)
                    self.assertTrue(is_plan_by_words((errand[0], left_by_words(errand[1], (w,))), got))
                    self.assertFalse(holds(wait, got))
                    self.assertEqual(find_breach(copy.deepcopy(errand), w), got)
                answers[len(errand[0]), got is None] = answers.get((len(errand[0]), got is None), 0) + 1
            self.assertEqual(errand, before)
        self.assertEqual(sorted(answers), list(itertools.product(range(2, 7), (False, True))))
        self.assertGreater(min(answers.values()), 10)

    def test_trimmed(self):
        lengths = []
        for errand, together in self.errands:
            before = copy.deepcopy(errand)
            kept = set(range(len(errand[1])))
            for w in sorted(kept, reverse=True):
                if not any(kept - {w} <= held and w not in held for held in together):
                    kept.remove(w)
            got = trimmed(errand)
            self.assertEqual(got, (errand[0], tuple(errand[1][w] for w in sorted(kept))))
            self.assertEqual(errand, before)
            lengths.append((len(errand[1]), len(kept)))
        self.assertGreater(len({few for many, few in lengths if many == 8}), 4)
        self.assertGreater(len({few for many, few in lengths if many == few}), 3)

    def test_needless_means_the_same_plans(self):
        for errand, _ in self.errands[::5]:
            plans = plans_of_an_hour(errand)
            for w in range(len(errand[1])):
                same = plans_of_an_hour(without(errand, (w,))) == plans
                self.assertIs(find_breach(errand, w) is None, same)
            self.assertEqual(plans_of_an_hour(trimmed(errand)), plans)


class Needless(unittest.TestCase):
    def check(self, errand, needless):
        got = [w for w in range(len(errand[1])) if find_breach(errand, w) is None]
        self.assertEqual(got, needless, errand)

    def test_the_same_wait_twice(self):
        wait = (0, 1, 3, 12)
        errand = (POST[0], (wait, wait))
        self.check(errand, [0, 1])
        self.assertEqual(trimmed(errand), POST)
        self.assertEqual(trimmed((POST[0], (wait,) * 8)), POST)
        self.assertEqual(trimmed((POST[0], (wait, (1, 0, -12, -3)))), POST)
        self.assertEqual(trimmed((POST[0], ((1, 0, -12, -3), wait))), (POST[0], ((1, 0, -12, -3),)))

    def test_waits_that_others_make_needless(self):
        free = (ANY, ANY, ANY)
        self.check((free, ((0, 1, 3, None), (1, 2, 4, None), (0, 2, 7, None))), [2])
        self.check((free, ((0, 1, 3, None), (1, 2, 4, None), (0, 2, 8, None))), [])
        self.check((free, ((0, 1, None, 3), (1, 2, None, 4), (0, 2, None, 7))), [2])
        self.check((free, ((0, 1, None, 3), (1, 2, None, 4), (0, 2, None, 6))), [])
        self.check((free, ((0, 1, 3, 9), (0, 1, 3, None), (0, 1, None, 9))), [0, 1, 2])
        errand = (free, ((0, 1, 3, 9), (0, 1, 3, None), (0, 1, None, 9)))
        self.assertEqual(trimmed(errand), (free, ((0, 1, 3, 9),)))
        errand = (free, ((0, 1, 3, None), (0, 1, None, 9), (0, 1, 3, 9)))
        self.assertEqual(trimmed(errand), (free, ((0, 1, 3, None), (0, 1, None, 9))))

    def test_the_span_makes_waits_needless(self):
        for wait in ((0, 1, -120, None), (0, 1, None, 120), (0, 1, -120, 120), (1, 0, -120, 120), (1, 0, None, 120)):
            self.check(((ANY, ANY), (wait,)), [0])
            self.assertEqual(trimmed(((ANY, ANY), (wait,))), ((ANY, ANY), ()))
        for wait in ((0, 1, -119, None), (0, 1, None, 119), (1, 0, -119, 120), (1, 0, -120, 119), (1, 2, -120, 120)):
            self.check(((ANY, ANY, ANY), (wait,)), [])
            self.assertEqual(trimmed(((ANY, ANY, ANY), (wait,))), ((ANY, ANY, ANY), (wait,)))

    def test_breaches_on_either_side(self):
        errand = ((ANY, ANY), ((0, 1, -119, None),))
        plan = find_breach(errand, 0)
        self.assertEqual(plan[1] - plan[0], -120)
        errand = ((ANY, ANY), ((0, 1, None, 119),))
        plan = find_breach(errand, 0)
        self.assertEqual(plan[1] - plan[0], 120)
        errand = (POST[0], ((0, 1, 5, 115),))
        self.assertEqual(find_breach(errand, 0), find_breach(copy.deepcopy(errand), 0))

    def test_open_times_make_waits_needless(self):
        tens = ((10, (0,)), (10, (5,)))
        self.check((tens, ((0, 1, 1, 9), (0, 1, 5, 5), (0, 1, 4, 14), (0, 1, -4, 5))), [0, 1, 2, 3])
        self.assertEqual(trimmed((tens, ((0, 1, 1, 9), (0, 1, 5, 5)))), (tens, ((0, 1, 1, 9),)))
        self.assertEqual(trimmed((tens, ((0, 1, 1, 15), (0, 1, 4, 14)))), (tens, ((0, 1, 4, 14),)))
        self.assertEqual(trimmed((tens, ((0, 1, 1, 14), (0, 1, 4, 15)))), (tens, ((0, 1, 1, 14),)))

    def test_errands_without_a_plan(self):
        for patterns in (((60, ()), ANY), (ANY, (1, ())), ((60, ()), (60, ()))):
            errand = (patterns, ((0, 1, 3, 12), (0, 1, 3, 12), (1, 0, 5, None)))
            self.check(errand, [0, 1, 2])
            self.assertEqual(trimmed(errand), (patterns, ()))
        two = ((ANY, ANY), ((0, 1, 3, None), (0, 1, None, 2)))
        self.check(two, [])
        self.assertEqual(trimmed(two), two)
        three = ((ANY, ANY), ((0, 1, None, 2), (0, 1, 3, None), (0, 1, None, 1)))
        self.check(three, [0, 2])
        self.assertEqual(trimmed(three), ((ANY, ANY), three[1][:2]))

    def test_errands_without_waits(self):
        for errand in (((ANY,), ()), ((ANY, ANY), ()), (((60, ()),), ()), (VISIT[0], ())):
            self.assertEqual(trimmed(errand), errand)

    def test_eight_waits_of_six_steps(self):
        patterns = (ANY,) * 6
        chain = tuple((i, i + 1, 2, 9) for i in range(5))
        errand = (patterns, chain + ((0, 5, 10, 45), (0, 5, 10, 44), (5, 0, None, -9)))
        self.check(errand, [5, 7])
        self.assertEqual(trimmed(errand), (patterns, chain + ((0, 5, 10, 44),)))


class Laws(unittest.TestCase):
    def test_trimmed_errands_have_no_needless_wait(self):
        for errand in [POST, VISIT, EIGHT] + CYCLES + KNOTS + NO_PLANS:
            left = trimmed(errand)
            self.assertIs(is_errand(left), True)
            self.assertEqual(left[0], errand[0])
            for w in range(len(left[1])):
                self.assertIsNotNone(find_breach(left, w))
            self.assertEqual(trimmed(left), left)
            self.assertEqual(good_starts(left), good_starts(errand))
            self.assertEqual(trimmed(copy.deepcopy(errand)), left)

    def test_breaches_are_plans_of_the_errand_without_the_wait_alone(self):
        for errand in [POST, VISIT, EIGHT] + CYCLES + KNOTS:
            for w in range(len(errand[1])):
                plan = find_breach(errand, w)
                if plan is not None:
                    self.assertIs(is_plan(without(errand, (w,)), plan), True)
                    self.assertIs(is_plan(errand, plan), False)


if __name__ == "__main__":
    unittest.main()

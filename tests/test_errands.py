"""Points 5 and 6: errands and waits."""

import copy
import itertools
import unittest

from slotgaps.errands import is_errand, mirrored, wait_holds
from tests.samples import HUGE, POST, VISIT, is_smallest_of, other_values

STEP = (10, (0,))
WAIT = (0, 1, 3, 12)


class Examples(unittest.TestCase):
    def test_is_errand(self):
        got = [is_errand(POST), is_errand((((10, (0,)),), ((0, 1, 3, 12),)))]
        self.assertEqual(got, [True, False])

    def test_wait_holds(self):
        got = [wait_holds((0, 1, 3, 12), (0, 5)), wait_holds((0, 1, 3, None), (0, 200)),
               wait_holds((1, 0, None, -3), (0, 2))]
        self.assertEqual(got, [True, True, False])

    def test_mirrored(self):
        self.assertEqual(mirrored(POST), (((10, (0,)), (15, (10,))), ((0, 1, -12, -3),)))


class IsErrand(unittest.TestCase):
    def check(self, value, wanted):
        before = copy.deepcopy(value)
        self.assertIs(is_errand(value), wanted, value)
        self.assertEqual(value, before)

    def check_wait(self, wait, wanted, steps=2):
        self.check(((STEP,) * steps, (wait,)), wanted)

    def test_the_errands_of_the_document(self):
        self.check(POST, True)
        self.check(VISIT, True)

    def test_values_of_other_kinds(self):
        for value in other_values():
            self.check(value, False)
            self.check((value, ()), False)
            self.check(((value,), ()), False)
            self.check(((STEP, value), ()), False)
            self.check_wait(value, False)
            if value != ():
                self.check(((STEP, STEP), value), False)

    def test_other_lengths(self):
        for value in ((), ((STEP,),), ((STEP,), (), ()), ((STEP, STEP), (WAIT,), ())):
            self.check(value, False)

    def test_numbers_of_steps(self):
        for steps in range(9):
            self.check(((STEP,) * steps, ()), 1 <= steps <= 6)
        self.check(((STEP,) * 20000, ()), False)

    def test_numbers_of_waits(self):
        for waits in range(11):
            self.check(((STEP, STEP), (WAIT,) * waits), waits <= 8)
        self.check(((STEP, STEP), (WAIT,) * 20000), False)

    def test_all_waits_count(self):
        for place in range(8):
            waits = [WAIT] * 8
            waits[place] = (0, 2, 3, 12)
            self.check(((STEP, STEP), tuple(waits)), False)

    def test_all_patterns_count(self):
        for place in range(6):
            patterns = [STEP] * 6
            patterns[place] = (7, (0,))
            self.check((tuple(patterns), ()), False)

    def test_patterns_need_not_be_smallest_and_may_be_empty(self):
        self.check((((10, (0, 5)), (60, ()), (1, (0,))), ()), True)

    def test_indices(self):
        for steps in range(1, 7):
            for i, j in itertools.product(range(-7, 9), repeat=2):
                wanted = 0 <= i < steps and 0 <= j < steps and i != j
                self.check_wait((i, j, 3, 12), wanted, steps)

    def test_indices_of_other_kinds(self):
        for index in (True, False, None, "0", "", (), (0,), [0], {}, HUGE, -HUGE):
            self.check_wait((index, 1, 3, 12), False)
            self.check_wait((0, index, 3, 12), False)
            self.check_wait((index, 2, 3, 12), False, 3)

    def test_limits_and_beyond(self):
        for limit in (-120, -119, -1, 0, 1, 119, 120):
            self.check_wait((0, 1, limit, None), True)
            self.check_wait((0, 1, None, limit), True)
            self.check_wait((0, 1, limit, limit), True)
        for limit in (-HUGE, -122, -121, 121, 122, HUGE):
            self.check_wait((0, 1, limit, None), False)
            self.check_wait((0, 1, None, limit), False)
            self.check_wait((0, 1, limit, limit), False)
        self.check_wait((0, 1, -120, 120), True)
        self.check_wait((0, 1, -121, 120), False)
        self.check_wait((0, 1, -120, 121), False)

    def test_none_for_both(self):
        self.check_wait((0, 1, None, None), False)

    def test_low_above_high(self):
        for low, high in itertools.product(range(-3, 4), repeat=2):
            self.check_wait((0, 1, low, high), low <= high)
        self.check_wait((0, 1, 120, -120), False)

    def test_limits_of_other_kinds(self):
        for limit in (True, False, "3", "", b"", (), (3,), [], [3], {}):
            for low, high in ((limit, 12), (limit, None), (-3, limit), (None, limit), (limit, limit)):
                self.check_wait((0, 1, low, high), False)

    def test_waits_of_other_lengths(self):
        for wait in ((), (0,), (0, 1), (0, 1, 3), (0, 1, 3, 12, 0), (0, 1, 3, 12, None), WAIT + WAIT):
            self.check_wait(wait, False)

    def test_lists_in_the_place_of_tuples(self):
        self.check(list(VISIT), False)
        self.check((list(VISIT[0]), VISIT[1]), False)
        self.check((VISIT[0], list(VISIT[1])), False)
        self.check((VISIT[0], []), False)
        for place in range(3):
            patterns = list(VISIT[0])
            period, times = patterns[place]
            for instead in ([period, times], (period, list(times))):
                patterns[place] = instead
                self.check((tuple(patterns), VISIT[1]), False)
        for place in range(2):
            waits = list(VISIT[1])
            waits[place] = list(waits[place])
            self.check((VISIT[0], tuple(waits)), False)

    def test_dicts_and_strings_in_the_place_of_tuples(self):
        self.check({0: VISIT[0], 1: VISIT[1]}, False)
        self.check(dict(enumerate(VISIT)), False)
        self.check(((STEP, STEP), {}), False)
        self.check(((STEP, STEP), ""), False)
        self.check(((STEP, STEP), None), False)
        self.check(("ab", ()), False)


class WaitHolds(unittest.TestCase):
    def test_at_below_and_above_each_limit(self):
        for time in (0, 7, -200, 10 ** 60, -10 ** 60):
            for gap, wanted in ((2, False), (3, True), (4, True), (11, True), (12, True), (13, False)):
                self.assertIs(wait_holds((0, 1, 3, 12), (time, time + gap)), wanted)
                self.assertIs(wait_holds((1, 0, 3, 12), (time + gap, time)), wanted)

    def test_low_alone(self):
        for gap, wanted in ((-500, False), (-6, False), (-5, True), (-4, True), (500, True), (10 ** 60, True)):
            self.assertIs(wait_holds((0, 1, -5, None), (1, 1 + gap)), wanted)

    def test_high_alone(self):
        for gap, wanted in ((-10 ** 60, True), (-500, True), (-6, True), (-5, True), (-4, False), (500, False)):
            self.assertIs(wait_holds((0, 1, None, -5), (1, 1 + gap)), wanted)

    def test_limits_of_zero(self):
        for gap in (-1, 0, 1):
            self.assertIs(wait_holds((0, 1, 0, None), (9, 9 + gap)), gap >= 0)
            self.assertIs(wait_holds((0, 1, None, 0), (9, 9 + gap)), gap <= 0)
            self.assertIs(wait_holds((0, 1, 0, 0), (9, 9 + gap)), gap == 0)

    def test_the_steps_of_the_wait_alone(self):
        times = (0, 100, 7, -50, 10, 3)
        self.assertIs(wait_holds((2, 4, 3, 3), times), True)
        self.assertIs(wait_holds((4, 2, 3, 3), times), False)
        self.assertIs(wait_holds((4, 2, -3, -3), times), True)
        self.assertIs(wait_holds((5, 3, -53, -53), times), True)


class Mirrored(unittest.TestCase):
    def test_patterns(self):
        for pattern in ((1, ()), (60, ()), (1, (0,)), (60, tuple(range(60))), (10, (0, 5)), (10, (0,)),
                        (15, (5,)), (12, (1, 2, 7)), (6, (0, 1)), (60, (1, 59)), (4, (0, 2)), (30, (1, 11, 21))):
            (got,), waits = mirrored(((pattern,), ()))
            self.assertEqual(waits, ())
            self.assertTrue(is_smallest_of(got, lambda t: -t % pattern[0] in pattern[1]), pattern)

    def test_the_order_of_times(self):
        self.assertEqual(mirrored((((12, (1, 2, 7)),), ())), (((12, (5, 10, 11)),), ()))
        self.assertEqual(mirrored((((6, (0, 1)),), ())), (((6, (0, 5)),), ()))

    def test_the_order_of_steps(self):
        self.assertEqual(mirrored(((STEP, (15, (5,)), (60, (1,))), ()))[0], (STEP, (15, (10,)), (60, (59,))))

    def test_waits(self):
        for wait, wanted in (((0, 1, 3, 12), (0, 1, -12, -3)), ((1, 0, -12, 3), (1, 0, -3, 12)),
                             ((0, 1, None, 12), (0, 1, -12, None)), ((0, 1, 3, None), (0, 1, None, -3)),
                             ((1, 0, None, -3), (1, 0, 3, None)), ((0, 1, 0, None), (0, 1, None, 0)),
                             ((0, 1, None, 0), (0, 1, 0, None)), ((0, 1, 0, 0), (0, 1, 0, 0)),
                             ((0, 1, -120, 120), (0, 1, -120, 120)), ((0, 1, 120, None), (0, 1, None, -120))):
            self.assertEqual(mirrored(((STEP, STEP), (wait,))), ((STEP, STEP), (wanted,)))

    def test_the_order_of_waits(self):
        waits = ((0, 1, 3, 12), (1, 0, None, 5), (0, 1, 3, 12), (0, 1, 2, None))
        wanted = ((0, 1, -12, -3), (1, 0, -5, None), (0, 1, -12, -3), (0, 1, None, -2))
        self.assertEqual(mirrored(((STEP, STEP), waits))[1], wanted)

    def test_a_wait_holds_for_the_mirrored_times(self):
        for wait in ((0, 1, 3, 12), (1, 0, None, 5), (0, 1, -2, None), (1, 0, -4, -1)):
            turned = mirrored(((STEP, STEP), (wait,)))[1][0]
            for gap in range(-20, 21):
                self.assertEqual(wait_holds(turned, (-8, -8 - gap)), wait_holds(wait, (8, 8 + gap)))

    def test_gives_an_errand_of_tuples(self):
        for errand in (POST, VISIT):
            self.assertIs(is_errand(mirrored(errand)), True)

    def test_twice_gives_the_smallest_forms(self):
        self.assertEqual(mirrored(mirrored(VISIT)), VISIT)
        self.assertEqual(mirrored(mirrored((((10, (0, 5)), STEP), (WAIT,)))), (((5, (0,)), STEP), (WAIT,)))


if __name__ == "__main__":
    unittest.main()

"""Point 4: patterns."""

import copy
import itertools
import unittest

from slotgaps.patterns import (
    contains, intersection, is_pattern, last_time, next_time, shifted, smallest, union)
from tests.samples import DIVISORS, HUGE, contained, is_smallest_of, other_values


def small_patterns():
    """All patterns with a period of at most 6."""
    for period in range(1, 7):
        for many in range(period + 1):
            for times in itertools.combinations(range(period), many):
                yield (period, times)


def patterns():
    """Some patterns of every period: all small ones, and others without, with one and with all times."""
    yield from small_patterns()
    for period in (10, 12, 15, 20, 30, 60):
        yield (period, ())
        yield (period, (0,))
        yield (period, (period - 1,))
        yield (period, tuple(range(period)))
        yield (period, tuple(range(1, period)))
        yield (period, tuple(range(0, period, 2)))
        yield (period, tuple(range(1, period, 3)))
        yield (period, tuple(t for t in range(period) if t * t % 7 in (1, 2)))


def has(pattern, time):
    return any(time % pattern[0] == u for u in pattern[1])


class Examples(unittest.TestCase):
    def test_is_pattern(self):
        got = [is_pattern((10, (0, 5))), is_pattern((7, (0,))), is_pattern((10, (5, 0)))]
        self.assertEqual(got, [True, False, False])

    def test_smallest_forms(self):
        got = [smallest((10, (0, 5))), union((10, (0,)), (15, (5,))), intersection((10, (0,)), (15, (5,)))]
        self.assertEqual(got, [(5, (0,)), (30, (0, 5, 10, 20)), (30, (20,))])

    def test_shifted_and_times(self):
        got = [shifted((15, (5,)), -7), next_time((15, (5,)), 6), last_time((15, (5,)), 4), next_time((1, ()), 0)]
        self.assertEqual(got, [(15, (13,)), 20, -10, None])


class IsPattern(unittest.TestCase):
    def check(self, value, wanted):
        before = copy.deepcopy(value)
        self.assertIs(is_pattern(value), wanted)
        self.assertEqual(value, before)

    def test_patterns(self):
        for pattern in patterns():
            self.check(pattern, True)

    def test_values_of_other_kinds(self):
        for value in other_values():
            self.check(value, False)

    def test_tuples_alone(self):
        for value in ([10, (0, 5)], (10, [0, 5]), [10, [0, 5]], "ab", {10: (0, 5)}, {0: 10, 1: (0, 5)},
                      (10, {0: 0, 5: 5}), (10, "05"), (10, b"\x00\x05"), (10, ""), (10, None), (10, 0)):
            self.check(value, False)

    def test_tuples_of_another_length(self):
        for value in ((), (10,), ((0, 5),), (10, (0, 5), 0), (10, (0, 5), ()), (10, 0, 5), ((10, (0, 5)),)):
            self.check(value, False)

    def test_periods(self):
        for period in range(-130, 131):
            self.check((period, ()), period in DIVISORS)
            self.check((period, (0,)), period in DIVISORS)

    def test_periods_of_other_kinds(self):
        for period in (True, False, None, "10", "", b"1", (10,), [10], {}, (), HUGE, -HUGE, 60 * 10 ** 59):
            self.check((period, ()), False)

    def test_order(self):
        for value, wanted in (((10, (0, 5, 9)), True), ((10, (0, 9, 5)), False), ((10, (5, 0, 9)), False),
                              ((10, (9, 5, 0)), False), ((10, (0, 0)), False), ((10, (0, 5, 5)), False),
                              ((10, (5, 5)), False), ((10, (0, 5, 0)), False), ((10, (9, 9)), False)):
            self.check(value, wanted)

    def test_range_of_times(self):
        for period in DIVISORS:
            self.check((period, (period - 1,)), True)
            self.check((period, (period,)), False)
            self.check((period, (0, period)), False)
            self.check((period, (period + 1,)), False)
            self.check((period, (-1,)), False)
            self.check((period, (-1, 0)), False)
            self.check((period, (-period,)), False)
            self.check((period, (HUGE,)), False)

    def test_all_times_and_none(self):
        for period in DIVISORS:
            self.check((period, ()), True)
            self.check((period, tuple(range(period))), True)
            self.check((period, tuple(range(period + 1))), False)
            self.check((period, tuple(range(-1, period))), False)

    def test_times_of_other_kinds(self):
        for time in (True, False, None, "0", "", b"", (), (0,), [], [0], {}):
            self.check((10, (time,)), False)
            self.check((10, (0, time)), False)
            self.check((10, (time, 5)), False)

    def test_bools_among_integers(self):
        self.check((10, (False, 1, 2)), False)
        self.check((10, (0, True, 2)), False)
        self.check((10, (0, 1, 2)), True)


class Contains(unittest.TestCase):
    def test_ordinary_times(self):
        for pattern in patterns():
            wanted = contained(pattern, -130, 130)
            self.assertEqual([t for t in range(-130, 130) if contains(pattern, t)], wanted)

    def test_returns_a_bool(self):
        self.assertIs(contains((10, (0,)), 20), True)
        self.assertIs(contains((10, (0,)), 21), False)
        self.assertIs(contains((1, ()), 0), False)

    def test_many_digits(self):
        for much in (10 ** 60, -10 ** 60, 10 ** 4000):
            for pattern in patterns():
                for t in range(60):
                    self.assertEqual(contains(pattern, 60 * much + t), has(pattern, t))


class Smallest(unittest.TestCase):
    def test_has_the_smallest_period(self):
        for pattern in patterns():
            self.assertTrue(is_smallest_of(smallest(pattern), lambda t: has(pattern, t)), pattern)

    def test_every_form_of_a_pattern(self):
        for period in DIVISORS:
            for longer in DIVISORS:
                if longer % period == 0:
                    form = (longer, tuple(range(period - 1, longer, period)))
                    self.assertEqual(smallest(form), (period, (period - 1,)))

    def test_no_time_and_all_times(self):
        for period in DIVISORS:
            self.assertEqual(smallest((period, ())), (1, ()))
            self.assertEqual(smallest((period, tuple(range(period)))), (1, (0,)))

    def test_one_time_too_many_or_too_few(self):
        self.assertEqual(smallest((60, tuple(range(0, 60, 10)) + (51,))), (60, tuple(range(0, 60, 10)) + (51,)))
        self.assertEqual(smallest((60, tuple(range(0, 50, 10)))), (60, (0, 10, 20, 30, 40)))


class UnionAndIntersection(unittest.TestCase):
    def check(self, one, other):
        either, both = union(one, other), intersection(one, other)
        self.assertTrue(is_smallest_of(either, lambda t: has(one, t) or has(other, t)), (one, other))
        self.assertTrue(is_smallest_of(both, lambda t: has(one, t) and has(other, t)), (one, other))

    def test_small_patterns(self):
        some = [p for p in small_patterns() if p[0] < 5]
        for one, other in itertools.product(some, some):
            self.check(one, other)

    def test_patterns_of_every_period(self):
        some = [p for p in patterns() if p[0] >= 4][::5]
        for one, other in itertools.product(some, some):
            self.check(one, other)

    def test_no_time_and_all_times(self):
        self.assertEqual(union((2, (0,)), (2, (1,))), (1, (0,)))
        self.assertEqual(union((60, tuple(range(0, 60, 2))), (4, (1, 3))), (1, (0,)))
        self.assertEqual(intersection((2, (0,)), (2, (1,))), (1, ()))
        self.assertEqual(intersection((4, (0,)), (6, (1,))), (1, ()))
        self.assertEqual(union((60, ()), (30, ())), (1, ()))
        self.assertEqual(intersection((12, tuple(range(12))), (5, (0, 1, 2, 3, 4))), (1, (0,)))

    def test_a_smaller_period_than_both(self):
        self.assertEqual(union((10, (0,)), (10, (5,))), (5, (0,)))
        self.assertEqual(intersection((6, (0, 2, 3)), (6, (0, 3, 4))), (3, (0,)))

    def test_a_larger_period_than_both(self):
        self.assertEqual(intersection((20, (0,)), (12, (0,))), (60, (0,)))
        self.assertEqual(intersection((4, (3,)), (15, (14,))), (60, (59,)))


class Shifted(unittest.TestCase):
    def test_shifts(self):
        bys = (0, 1, -1, 7, -7, 30, 59, 60, -60, 61, 120, -125, 10 ** 60 + 1, -10 ** 60 - 1, HUGE)
        for pattern in list(patterns())[::3]:
            for by in bys:
                got = shifted(pattern, by)
                self.assertTrue(is_smallest_of(got, lambda t: has(pattern, t - by)), (pattern, by))

    def test_zero_gives_the_smallest_form(self):
        self.assertEqual(shifted((10, (0, 5)), 0), (5, (0,)))

    def test_the_times_stay_in_order(self):
        self.assertEqual(shifted((10, (0, 3, 9)), 2), (10, (1, 2, 5)))
        self.assertEqual(shifted((10, (0, 3, 9)), -1), (10, (2, 8, 9)))
        self.assertEqual(shifted((10, (0, 3, 9)), 102), (10, (1, 2, 5)))

    def test_no_time_and_all_times(self):
        self.assertEqual(shifted((20, ()), 3), (1, ()))
        self.assertEqual(shifted((20, tuple(range(20))), -3), (1, (0,)))


class NextAndLast(unittest.TestCase):
    def test_all_patterns(self):
        for pattern in patterns():
            for time in range(-65, 66):
                later = contained(pattern, time, time + 60)
                earlier = contained(pattern, time - 59, time + 1)
                self.assertEqual(next_time(pattern, time), later[0] if later else None, (pattern, time))
                self.assertEqual(last_time(pattern, time), earlier[-1] if earlier else None, (pattern, time))

    def test_no_times(self):
        for period in DIVISORS:
            for time in (0, 1, -1, 60, HUGE):
                self.assertIsNone(next_time((period, ()), time))
                self.assertIsNone(last_time((period, ()), time))

    def test_a_contained_time_is_its_own(self):
        for time in (5, 20, -10, 65, -55):
            self.assertEqual(next_time((15, (5,)), time), time)
            self.assertEqual(last_time((15, (5,)), time), time)

    def test_all_times(self):
        for period in DIVISORS:
            for time in (0, 1, -1, 59, -60, HUGE, -HUGE):
                self.assertEqual(next_time((period, tuple(range(period))), time), time)
                self.assertEqual(last_time((period, tuple(range(period))), time), time)

    def test_many_digits(self):
        for much in (60 * 10 ** 60, -60 * 10 ** 60, 60 * 10 ** 4000):
            self.assertEqual(next_time((15, (5,)), much + 6), much + 20)
            self.assertEqual(last_time((15, (5,)), much + 4), much - 10)
            self.assertEqual(next_time((60, (0, 59)), much + 1), much + 59)
            self.assertEqual(last_time((60, (0, 59)), much - 2), much - 60)


class EqualResults(unittest.TestCase):
    def test_equal_arguments_give_equal_results(self):
        for ask in (smallest, is_pattern):
            self.assertEqual(ask((30, (0, 10, 20))), ask((30, tuple([0, 10, 20]))))
        for ask in (union, intersection):
            self.assertEqual(ask((10, (0,)), (15, (5,))), ask((10, (0,)), (15, (5,))))


if __name__ == "__main__":
    unittest.main()

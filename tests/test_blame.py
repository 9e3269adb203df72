"""Point 14: what forbids a start."""

import copy
import itertools
import unittest

from slotgaps.blame import blame, find_drops
from slotgaps.ends import earliest
from slotgaps.needless import without
from slotgaps.refutations import find_refutation
from slotgaps.starts import good_starts
from tests.samples import ANY, CYCLES, MUCH, NEVER, NO_PLANS, POST, VISIT, contained
from tests.search import dense_errands, held_together, knotted_errands, sets_of_waits, small_errands

KNOTS = dense_errands(12, seed=10)
KNOTS += [errand for steps in range(1, 7) for errand in knotted_errands(25, steps, seed=10)]
ERRANDS = [POST, VISIT] + CYCLES + KNOTS + small_errands(20, 2, seed=10) + small_errands(10, 3, seed=10)
# Seven of its eight waits together forbid the start 22, and no six of them do.
LONG = (((60, (22,)), (60, (8, 34, 37)), (60, (0, 46, 51)), (12, (0, 5)), (30, (7, 15, 27))),
        ((2, 3, 49, None), (1, 0, None, 3), (4, 1, None, 80), (3, 2, -58, None), (3, 2, None, -45), (4, 3, 44, None),
         (3, 1, 20, None), (0, 4, None, -62)))
TENS = ((10, (0,)), (10, (5,)))
NEVER_HOLDS = ((0, 1, 1, 1), (1, 0, 2, 4))


def others(errand, chosen):
    return tuple(w for w in range(len(errand[1])) if w not in chosen)


class Examples(unittest.TestCase):
    def test_all(self):
        self.assertEqual([blame(POST, 20), blame(POST, 10), blame(POST, 3), find_drops(POST)], [(0,), None, (), (0,)])


class BySearch(unittest.TestCase):
    def check_blame(self, errand, start, together):
        """Compare blame with the first set whose waits hold in no way together."""
        wanted = None
        if not any(len(held) == len(errand[1]) for held in together):
            wanted = next(c for c in sets_of_waits(errand) if not any(held.issuperset(c) for held in together))
        got = blame(errand, start)
        self.assertEqual((got, type(got)), (wanted, type(wanted)), (errand, start))
        return got

    def test_blame(self):
        found = []
        for errand in ERRANDS:
            before = copy.deepcopy(errand)
            opened = contained(errand[0][0], 0, 60)
            for start in opened[:4] + opened[-1:] + [0, 7, -60, 77]:
                found.append(self.check_blame(errand, start, held_together(errand, start)))
            self.assertEqual(errand, before)
        self.assertGreater(len({len(chosen) for chosen in found if chosen is not None}), 4)
        self.assertGreater(len(set(found)), 25)

    def test_blame_from_each_start_near_an_hour(self):
        for errand in ERRANDS[::9]:
            for start in range(-13, 73):
                self.check_blame(errand, start, held_together(errand, start))

    def test_find_drops(self):
        found = []
        for errand in ERRANDS:
            before = copy.deepcopy(errand)
            starts = [held_together(errand, start) for start in contained(errand[0][0], 0, 60)]
            wanted = next((drops for drops in sets_of_waits(errand) if all(
                any(held.issuperset(others(errand, drops)) for held in together) for together in starts)), None)
            got = find_drops(errand)
            self.assertEqual((got, type(got)), (wanted, type(wanted)), errand)
            self.assertEqual(errand, before)
            found.append(got)
        self.assertGreater(found.count(None), 5)
        self.assertGreater(found.count(()), 20)
        self.assertGreater(len({len(drops) for drops in found if drops is not None}), 4)
        self.assertGreater(len(set(found)), 30)

    def test_many_waits_to_blame(self):
        self.assertEqual(self.check_blame(LONG, 22, held_together(LONG, 22)), (0, 1, 2, 3, 5, 6, 7))


class Blame(unittest.TestCase):
    def test_good_starts(self):
        for errand in (POST, VISIT, CYCLES[0], ((ANY,), ()), ((ANY,) * 6, ())):
            for start in contained(good_starts(errand), -30, 90):
                self.assertIsNone(blame(errand, start))

    def test_no_wait_is_to_blame(self):
        for start in (1, 5, -9, 59, 10 ** 59 + 1):
            self.assertEqual(blame(POST, start), ())
        self.assertEqual(blame((POST[0] + (NEVER,), POST[1] * 8), 10), ())
        self.assertEqual(blame((POST[0] + (NEVER,), POST[1]), 20), ())
        self.assertEqual(blame(((NEVER,), ()), 0), ())
        self.assertEqual(blame((((10, (0,)),), ()), 3), ())

    def test_the_smallest_set(self):
        # The first two waits forbid the start together, the third one alone.
        errand = ((ANY, ANY), ((0, 1, 5, None), (0, 1, None, 4), (1, 0, 120, None), (0, 1, -119, None)))
        self.assertEqual(blame(errand, 0), (0, 1))
        self.assertEqual(blame((TENS, ((0, 1, 6, None), (0, 1, None, 9), (0, 1, 7, 7))), 0), (2,))
        self.assertEqual(blame((TENS, ((0, 1, 6, None), (0, 1, None, 9), (0, 1, 4, 6))), 0), (0, 1))

    def test_the_first_of_several_sets(self):
        for many in range(1, 9):
            self.assertEqual(blame((TENS, NEVER_HOLDS[:1] * many), 0), (0,))
        self.assertEqual(blame((TENS, ((0, 1, 5, 5),) + NEVER_HOLDS), 0), (1,))
        late, soon, fine = (0, 1, 6, None), (0, 1, None, 14), (0, 1, -100, 100)
        for waits, wanted in (((late, soon), (0, 1)), ((fine, late, soon), (1, 2)), ((late, fine, soon, late), (0, 2)),
                              ((soon, fine, late, soon, late), (0, 2)), ((fine, soon, soon, late), (1, 3)),
                              ((fine, fine, late, late, soon, fine, soon, soon), (2, 4))):
            self.assertEqual(blame((TENS, waits), 10), wanted)
        chain = ((0, 1, 50, None), (1, 2, 50, None), (1, 3, 50, None), (2, 3, 50, None), (3, 0, -120, None))
        self.assertEqual(blame(((ANY,) * 4, chain), 7), (0, 1, 3))

    def test_the_span_and_one_wait(self):
        errand = ((ANY, (60, (0,))), ((0, 1, 115, None),))
        self.assertEqual([blame(errand, start) for start in (-1, 0, 5, 6, 59)], [(0,), None, None, (0,), (0,)])

    def test_starts_far_from_0(self):
        for by in MUCH + (-60, 600):
            for errand in [POST, VISIT] + CYCLES + KNOTS[::6] + NO_PLANS:
                for start in (0, 5, 10, 20):
                    self.assertEqual(blame(errand, by + start), blame(errand, start))

    def test_equal_results_for_equal_arguments(self):
        for errand in [POST, VISIT, LONG] + CYCLES:
            for start in (0, 20, 22):
                self.assertEqual(blame(errand, start), blame(copy.deepcopy(errand), start))


class Drops(unittest.TestCase):
    def test_nothing_to_drop(self):
        for errand in (((ANY,), ()), ((ANY,) * 6, ()), (TENS, ((0, 1, 1, 9),) * 8), VISIT, CYCLES[3]):
            self.assertEqual(find_drops(errand), ())

    def test_step_0_without_times(self):
        for errand in (((NEVER,), ()), ((NEVER, ANY), ()), ((NEVER, NEVER), NEVER_HOLDS), ((NEVER, ANY), NEVER_HOLDS)):
            self.assertEqual(find_drops(errand), ())

    def test_none_if_dropping_does_not_help(self):
        for steps in range(2, 7):
            for place in range(1, steps):
                patterns = [ANY] * steps
                patterns[place] = NEVER
                self.assertIsNone(find_drops((tuple(patterns), ())))
                self.assertIsNone(find_drops((tuple(patterns), ((0, 1, 5, 5), (1, 0, 5, 5)))))

    def test_all_waits_to_drop(self):
        for many in range(9):
            self.assertEqual(find_drops((TENS, (NEVER_HOLDS * 4)[:many])), tuple(range(many)))

    def test_waits_that_forbid_different_starts(self):
        patterns = ((60, (0, 30)), (60, (0, 30)), (60, (5,)))
        stays, away, fine = (0, 2, 0, 20), (0, 2, 25, 50), (0, 1, -120, 120)
        self.assertEqual(find_drops((patterns, (fine, stays))), (1,))
        self.assertEqual(find_drops((patterns, (away, fine))), (0,))
        self.assertEqual(find_drops((patterns, (away, fine, stays))), (0, 2))

    def test_the_last_start_of_the_hour_counts(self):
        patterns = ((60, (0, 59)), (60, (5,)))
        self.assertEqual(find_drops((patterns, ((0, 1, 0, 5),))), (0,))
        self.assertEqual(find_drops((patterns, ((0, 1, 0, 6),))), ())

    def test_the_first_of_several_sets(self):
        late, soon, fine = (0, 1, 6, None), (0, 1, None, 14), (0, 1, -100, 100)
        for waits, wanted in (((late, soon), (0,)), ((fine, late, soon), (1,)), ((late, soon, late), (1,)),
                              ((soon, fine, late, soon, late), (0, 3)), ((fine, late, soon, late, soon), (1, 3)),
                              ((soon, late, soon, late, soon), (1, 3))):
            self.assertEqual(find_drops((TENS, waits)), wanted)

    def test_equal_results_for_equal_arguments(self):
        for errand in [POST, VISIT, LONG] + CYCLES:
            self.assertEqual(find_drops(errand), find_drops(copy.deepcopy(errand)))


class Agreement(unittest.TestCase):
    def test_blame_names_what_forbids_the_start(self):
        for errand in [POST, VISIT, LONG] + CYCLES + KNOTS + NO_PLANS:
            for start in range(-2, 63, 5):
                chosen = blame(errand, start)
                self.assertIs(chosen is None, earliest(errand, start) is not None)
                if chosen is not None:
                    self.assertIsNotNone(find_refutation(without(errand, others(errand, chosen)), {0: start}))
                    for w in chosen:
                        fewer = tuple(v for v in chosen if v != w)
                        self.assertIsNotNone(earliest(without(errand, others(errand, fewer)), start))

    def test_without_the_drops_all_open_times_are_good(self):
        for errand in [POST, VISIT, LONG] + CYCLES + KNOTS + NO_PLANS:
            drops = find_drops(errand)
            opened = contained(errand[0][0], 0, 60)
            left = without(errand, others(errand, ()) if drops is None else drops)
            self.assertEqual(contained(good_starts(left), 0, 60) == opened, drops is not None)
            for w in drops or ():
                more = without(errand, tuple(v for v in drops if v != w))
                self.assertNotEqual(contained(good_starts(more), 0, 60), opened)


class ManyWaits(unittest.TestCase):
    def test_dense_errands_of_six_steps(self):
        """No search goes through all plans of these, but blame and drops have to be ready soon."""
        for low, high in itertools.product((1, 7, 20), (8, 25)):
            patterns = (ANY, (2, (0, 1)), (60, tuple(range(60))), (5, (0, 2, 3)), (12, (0, 5, 7)), (6, (0, 1)))
            waits = tuple((i, i + 1, min(low, high), high) for i in range(5))
            errand = (patterns, waits + ((5, 0, -100, -12), (1, 4, 30, None), (5, 2, None, -40)))
            self.assertEqual(good_starts(without(errand, find_drops(errand))), ANY)
            for start in range(60):
                self.assertIs(blame(errand, start) is None, earliest(errand, start) is not None)


if __name__ == "__main__":
    unittest.main()

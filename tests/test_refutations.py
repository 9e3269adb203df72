"""Point 9: refutations, and point 3 as far as it speaks of them."""

import copy
import itertools
import random
import unittest

from slotgaps.ends import windows
from slotgaps.plans import find_plan
from slotgaps.refutations import find_refutation, is_refutation
from tests.samples import HUGE, POST, VISIT, nested, other_values
from tests.search import plans_with, some_errand

ANY = (1, (0,))
NEVER = (1, ())
LINES = [(0, 20, ('given',)), (1, 23, ('low', 0, 0)), (1, 35, ('open', 1)), (0, 23, ('high', 0, 2))]

# An errand with each kind of wait, and times of which the one of step 0 is not open.
MIXED = (((10, (0,)), (15, (5,)), NEVER, (12, (1, 2, 7))),
         ((0, 1, 3, 12), (3, 1, None, 4), (3, 0, -5, None), (2, 3, -120, 120), (0, 1, 3, 12)))
GIVEN = {0: 3, 1: 20}
BEFORE = [(0, 3, ('given',)), (1, 20, ('given',)), (2, -117, ('span', 0)), (3, -119, ('span', 0)),
          (1, 6, ('low', 0, 0)), (3, 16, ('high', 1, 1))]
WORDS = ('given', 'open', 'low', 'high', 'span')


def next_open(pattern, time):
    return next(t for t in range(time, time + 60) if t % pattern[0] in pattern[1])


def greatest(errand, times, lines, step, reason):
    """The greatest time that a reason allows for a step, 'any', or None if it is not one of the reasons."""
    kinds = [type(part) for part in reason]
    if kinds[:1] != [str] or kinds[1:] != [int] * (len(kinds) - 1):
        return None
    word, numbers = reason[0], reason[1:]
    if word == 'given':
        return times.get(step) if not numbers else None
    if len(numbers) != {'open': 1, 'span': 1, 'low': 2, 'high': 2}.get(word) or numbers[-1] not in range(len(lines)):
        return None
    other, u, _ = lines[numbers[-1]]
    if word == 'open':
        pattern = errand[0][step]
        return None if other != step else next_open(pattern, u) if pattern[1] else 'any'
    if word == 'span':
        return u - 120 if (other, step).count(0) == 1 else None
    if numbers[0] not in range(len(errand[1])):
        return None
    i, j, low, high = errand[1][numbers[0]]
    if word == 'low':
        return u + low if (i, j) == (other, step) and low is not None else None
    return u - high if (j, i) == (other, step) and high is not None else None


def is_line_by_words(errand, times, lines, line):
    """Whether a value is a line that may stand behind some right lines."""
    if type(line) is not tuple or len(line) != 3 or type(line[2]) is not tuple:
        return False
    step, time, reason = line
    if type(step) is not int or type(time) is not int or step not in range(len(errand[0])):
        return False
    most = greatest(errand, times, lines, step, reason)
    return most is not None and (most == 'any' or time <= most)


def is_refutation_by_words(errand, times, value):
    if type(value) is not list or not value:
        return False
    earlier = []
    for line in value:
        if not is_line_by_words(errand, times, earlier, line):
            return False
        earlier.append(line)
    step, time, _ = value[-1]
    return step in times and time > times[step]


def some_times(chance, errand):
    """Times for some steps, open ones more often than not."""
    base = chance.choice((0, -60, 7))
    times = {}
    for step in chance.sample(range(len(errand[0])), chance.randint(1, len(errand[0]))):
        times[step] = base + chance.randint(0, 80)
        if errand[0][step][1] and chance.random() < 0.8:
            times[step] = next_open(errand[0][step], times[step])
    return times


def some_cases(many, seed):
    chance = random.Random(seed)
    for _ in range(many):
        errand = some_errand(chance, chance.choice((1, 2, 2, 3, 3)))
        yield errand, some_times(chance, errand)


def integers_of(lines):
    for step, time, reason in lines:
        yield from (step, time, *reason[1:])


class Examples(unittest.TestCase):
    def test_is_refutation(self):
        got = [is_refutation(POST, {0: 20}, LINES), is_refutation(POST, {0: 20}, LINES[:3]),
               is_refutation(POST, {0: 30}, LINES)]
        self.assertEqual(got, [True, False, False])

    def test_find_refutation(self):
        self.assertEqual([find_refutation(POST, {0: 10}), find_refutation(VISIT, {0: 0, 2: 25})], [None, None])


class EachLine(unittest.TestCase):
    """A line is put between lines that are right, the last of which refute the times by themselves."""

    def is_right(self, line, before=(), errand=MIXED, times=GIVEN):
        lines = list(before) + [line, (0, 3, ('given',))]
        lines.append((0, 10, ('open', len(lines) - 1)))
        kept = copy.deepcopy((errand, times, lines))
        got = is_refutation(errand, times, lines)
        self.assertIs(type(got), bool)
        self.assertEqual((errand, times, lines), kept)
        return got

    def check_most(self, step, most, reason):
        """Check the times below, at and above the greatest one that a reason allows."""
        for time, wanted in ((-HUGE, True), (most - 1, True), (most, True), (most + 1, False), (HUGE, False)):
            self.assertIs(self.is_right((step, time, reason), BEFORE), wanted, (step, reason))

    def test_the_lines_around_it(self):
        for at, line in enumerate(BEFORE):
            self.assertIs(self.is_right(line, BEFORE[:at]), True)

    def test_given(self):
        self.check_most(0, 3, ('given',))
        self.check_most(1, 20, ('given',))
        for time in (-200, 0, 3, 20):
            self.assertIs(self.is_right((2, time, ('given',)), BEFORE), False)
            self.assertIs(self.is_right((3, time, ('given',)), BEFORE), False)
        self.assertIs(self.is_right((0, 3, ('given',))), True)

    def test_open(self):
        self.check_most(0, 10, ('open', 0))
        self.check_most(1, 20, ('open', 1))
        self.check_most(1, 20, ('open', 4))
        self.check_most(3, -119, ('open', 3))
        self.check_most(3, 19, ('open', 5))

    def test_open_without_times(self):
        for time in (-HUGE, -118, -117, -116, 0, 500, HUGE):
            self.assertIs(self.is_right((2, time, ('open', 2)), BEFORE), True)
            self.assertIs(self.is_right((2, time, ('open', 0)), BEFORE), False)

    def test_low(self):
        self.check_most(1, 6, ('low', 0, 0))
        self.check_most(1, 6, ('low', 4, 0))
        self.check_most(0, -124, ('low', 2, 3))
        self.check_most(0, 11, ('low', 2, 5))
        self.check_most(3, -237, ('low', 3, 2))

    def test_high(self):
        self.check_most(0, 8, ('high', 0, 1))
        self.check_most(0, -6, ('high', 0, 4))
        self.check_most(2, -239, ('high', 3, 3))
        self.check_most(2, -104, ('high', 3, 5))
        errand = (((10, (0,)), ANY), ((1, 0, None, -4),))
        for time in (6, 7, 8):
            self.assertIs(self.is_right((1, time, ('high', 0, 0)), [BEFORE[0]], errand, {0: 3}), time <= 7)

    def test_span(self):
        for step in (1, 2, 3):
            self.check_most(step, -117, ('span', 0))
        self.check_most(0, -100, ('span', 1))
        self.check_most(0, -237, ('span', 2))
        self.check_most(0, -239, ('span', 3))

    def test_span_between_other_steps(self):
        for step, k in itertools.product(range(4), range(6)):
            wanted = (step == 0) != (BEFORE[k][0] == 0)
            self.assertIs(self.is_right((step, -1000, ('span', k)), BEFORE), wanted)

    def test_waits_between_other_steps_and_without_the_limit(self):
        for word, step, w, k in itertools.product(('low', 'high'), range(4), range(-2, 7), range(6)):
            right = word == 'low' and (w, BEFORE[k][0], step) in ((0, 0, 1), (4, 0, 1), (2, 3, 0), (3, 2, 3))
            right = right or word == 'high' and (w, BEFORE[k][0], step) in (
                (0, 1, 0), (4, 1, 0), (1, 1, 3), (3, 3, 2))
            self.assertIs(self.is_right((step, -1000, (word, w, k)), BEFORE), right, (word, step, w, k))

    def test_the_limit_that_is_used(self):
        for low, high in ((None, 4), (-4, None), (-4, 4), (0, 0), (None, 0), (0, None)):
            errand = (((10, (0,)), ANY), ((0, 1, low, high), (1, 0, low, high)))
            for word, w, time in itertools.product(('low', 'high'), (0, 1), (-200, -2, -1, 0, 2, 3, 4, 6, 7, 8)):
                wanted = is_line_by_words(errand, {0: 3}, BEFORE[:1], (1, time, (word, w, 0)))
                self.assertIs(self.is_right((1, time, (word, w, 0)), BEFORE[:1], errand, {0: 3}), wanted)
        self.assertIs(self.is_right((1, -9, ('low', 0, 0)), BEFORE[:1], (((10, (0,)), ANY), ((0, 1, None, 4),)),
                                    {0: 3}), False)
        self.assertIs(self.is_right((1, -9, ('high', 0, 0)), BEFORE[:1], (((10, (0,)), ANY), ((1, 0, 4, None),)),
                                    {0: 3}), False)

    def test_a_line_that_is_not_earlier(self):
        for k in (-6, -1, 6, 7, 8, 9, 100, HUGE, -HUGE):
            self.assertIs(self.is_right((0, -500, ('open', k)), BEFORE), False)
            self.assertIs(self.is_right((1, -500, ('open', k)), BEFORE), False)
            self.assertIs(self.is_right((1, -500, ('span', k)), BEFORE), False)
            self.assertIs(self.is_right((1, -500, ('low', 0, k)), BEFORE), False)
            self.assertIs(self.is_right((0, -500, ('high', 0, k)), BEFORE), False)
        # The line itself, and a later one that has the right step.
        self.assertIs(self.is_right((0, 3, ('open', 0))), False)
        self.assertIs(self.is_right((0, 3, ('open', 1))), False)
        self.assertIs(self.is_right((1, -500, ('span', 1))), False)
        self.assertIs(self.is_right((2, 7, ('open', 6)), BEFORE), False)

    def test_an_index_of_no_wait(self):
        for w in (-5, -1, 5, 6, HUGE, -HUGE):
            self.assertIs(self.is_right((1, -500, ('low', w, 0)), BEFORE), False)
            self.assertIs(self.is_right((0, -500, ('high', w, 1)), BEFORE), False)

    def test_a_step_of_no_pattern(self):
        for step in (-4, -2, -1, 4, 5, HUGE, -HUGE):
            for reason in (('given',), ('open', 0), ('span', 0), ('low', 0, 0), ('high', 0, 1)):
                self.assertIs(self.is_right((step, -500, reason), BEFORE), False)

    def test_all_reasons(self):
        for word, step, k in itertools.product(WORDS, range(-1, 5), range(-1, 7)):
            for time in (-500, -117, 3, 6, 8, 19, 20, 21):
                for numbers in [(), (k,), (k, k)] + [(w, k) for w in range(-1, 6)]:
                    line = (step, time, (word,) + numbers)
                    wanted = is_line_by_words(MIXED, GIVEN, BEFORE, line)
                    self.assertIs(self.is_right(line, BEFORE), wanted, line)

    def test_other_words(self):
        for word in ('', 'Given', 'given ', 'OPEN', 'opens', 'wait', 'low high', 'none', b'open', None, 0, ()):
            for numbers in ((), (0,), (1,), (0, 0), (0, 1)):
                for step in (0, 1):
                    self.assertIs(self.is_right((step, -500, (word,) + numbers), BEFORE), False)

    def test_reasons_of_other_lengths(self):
        for reason in ((), ('given', 0), ('given', 0, 0), ('open',), ('open', 0, 0), ('span',), ('span', 1, 1),
                       ('low',), ('low', 0), ('low', 0, 0, 0), ('high',), ('high', 0), ('high', 0, 1, 1),
                       ('given', 'given'), ('open', 0, 0, 0)):
            for step in (0, 1):
                self.assertIs(self.is_right((step, -500, reason), BEFORE), False, reason)

    def test_lines_of_other_lengths(self):
        for line in ((), (0,), (0, 3), (0, 3, ('given',), 0), (0, 3, 'given'), (0, ('given',)), ('given',),
                     (0, 3, ('given',), ('given',)), ((0, 3, ('given',)),)):
            self.assertIs(self.is_right(line, BEFORE), False)

    def test_lists_in_the_place_of_tuples(self):
        for line in ((0, 3, ('given',)), (0, 10, ('open', 0)), (1, 6, ('low', 0, 0)), (0, 8, ('high', 0, 1)),
                     (1, -117, ('span', 0))):
            self.assertIs(self.is_right(line, BEFORE), True)
            self.assertIs(self.is_right(list(line), BEFORE), False)
            self.assertIs(self.is_right(line[:2] + (list(line[2]),), BEFORE), False)
            self.assertIs(self.is_right(dict(enumerate(line)), BEFORE), False)
            self.assertIs(self.is_right(line[:2] + (line[2][0],), BEFORE), False)
            self.assertIs(self.is_right(line[:2] + (dict.fromkeys(line[2]),), BEFORE), False)

    def test_bools_in_the_place_of_integers(self):
        right = [(0, 0, ('given',)), (1, 1, ('given',)), (0, 0, ('open', 0)), (1, 1, ('open', 1)),
                 (1, 0, ('low', 0, 0)), (0, 0, ('high', 0, 1)), (2, -500, ('span', 0)), (0, -500, ('span', 1)),
                 (3, -500, ('high', 1, 1)), (1, -500, ('span', 0)), (0, 1, ('open', 0)), (3, 1, ('open', 5))]
        for step, time, reason in right:
            self.assertIs(self.is_right((step, time, reason), BEFORE), True)
            for at, part in enumerate((step, time)):
                for instead in (True, False):
                    line = [step, time, reason]
                    line[at] = instead
                    self.assertIs(self.is_right(tuple(line), BEFORE), False)
            for at in range(1, len(reason)):
                changed = list(reason)
                changed[at] = bool(changed[at])
                self.assertIs(self.is_right((step, time, tuple(changed)), BEFORE), False)

    def test_parts_of_any_kind_and_depth(self):
        values = other_values() + ["given", "open", 2, 3, 5, ("given",), ["given"], ("open", 0), -500]
        for value in values:
            lines = [value, (value, -500, ('given',)), (0, value, ('given',)), (0, -500, value), (0, -500, (value,)),
                     (0, -500, (value, 0)), (0, -500, ('open', value)), (1, -500, ('low', value, 0)),
                     (1, -500, ('low', 0, value)), (0, -500, ('high', value, 1)), (0, -500, ('high', 0, value)),
                     (1, -500, ('span', value)), (1, -500, (value, 0, 0)), (value, value, value),
                     (0, value, ('open', 0)), (1, value, ('low', 0, 0)), (2, value, ('open', 2))]
            for line in lines:
                wanted = is_line_by_words(MIXED, GIVEN, BEFORE, line)
                self.assertEqual(self.is_right(line, BEFORE), wanted)


class TheWhole(unittest.TestCase):
    def test_one_line_is_never_enough_but_two_may_be(self):
        self.assertIs(is_refutation(MIXED, GIVEN, [(0, 3, ('given',))]), False)
        self.assertIs(is_refutation(MIXED, GIVEN, [(0, 3, ('given',)), (0, 4, ('open', 0))]), True)
        self.assertIs(is_refutation(MIXED, GIVEN, [(0, -HUGE, ('given',)), (0, 4, ('open', 0))]), False)

    def test_an_empty_list(self):
        for errand, times in ((POST, {0: 20}), (POST, {0: 0}), (MIXED, GIVEN), (((NEVER,), ()), {0: 0})):
            self.assertIs(is_refutation(errand, times, []), False)

    def test_the_last_line_is_for_a_given_step_and_a_later_time(self):
        for time in range(18, 26):
            lines = LINES[:3] + [(0, time, ('high', 0, 2))]
            self.assertIs(is_refutation(POST, {0: 20}, lines), 20 < time <= 23)
        self.assertIs(is_refutation(POST, {0: 20}, LINES + [(0, 20, ('given',))]), False)
        self.assertIs(is_refutation(POST, {0: 20}, LINES + [(1, 35, ('open', 1))]), False)
        self.assertIs(is_refutation(POST, {0: 20, 1: 35}, LINES + [(1, 35, ('open', 1))]), False)
        self.assertIs(is_refutation(POST, {0: 20, 1: 34}, LINES[:3]), True)
        self.assertIs(is_refutation(POST, {1: 20}, LINES), False)

    def test_every_line_counts(self):
        wrong = (0, 21, ('given',))
        for at in range(len(LINES)):
            self.assertIs(is_refutation(POST, {0: 20}, LINES[:at] + [wrong] + LINES[at + 1:]), False)
            self.assertIs(is_refutation(POST, {0: 20}, LINES[:at] + LINES[at + 1:]), False)
        self.assertIs(is_refutation(POST, {0: 20}, LINES + LINES), True)
        self.assertIs(is_refutation(POST, {0: 20}, LINES * 5000), True)
        self.assertIs(is_refutation(POST, {0: 20}, LINES[::-1]), False)
        self.assertIs(is_refutation(POST, {0: 20}, LINES * 5000 + [wrong]), False)

    def test_lists_alone(self):
        for value in (tuple(LINES), dict(enumerate(LINES)), dict.fromkeys(LINES), str(LINES), [LINES], (LINES,), None,
                      {"lines": LINES}, 0, True, ""):
            self.assertIs(is_refutation(POST, {0: 20}, value), False)

    def test_values_of_any_kind_and_depth(self):
        for value in other_values() + [nested(100), [nested(100)], [nested(20)] * 900]:
            before = copy.deepcopy(value)
            for lines in (value, [value], LINES + [value], [value] + LINES):
                self.assertIs(is_refutation(POST, {0: 20}, lines), False)
            self.assertEqual(value, before)

    def test_values_that_the_library_returned(self):
        plan = find_plan(VISIT, {0: 0})
        for value in (plan, list(plan), windows(VISIT, {0: 0}), POST, VISIT, list(VISIT), [POST], find_plan):
            self.assertIs(is_refutation(VISIT, {0: 1}, value), False)

    def test_times_of_many_digits(self):
        for much in (60 * 10 ** 58, -60 * 10 ** 58, 60 * 10 ** 3990, -60 * 10 ** 3990):
            lines = [(step, time + much, reason) for step, time, reason in LINES]
            self.assertIs(is_refutation(POST, {0: 20 + much}, lines), True)
            self.assertIs(is_refutation(POST, {0: 20 + much}, LINES), False)
            self.assertIs(is_refutation(POST, {0: 20 + much}, lines[:3] + [(0, much + 24, ('high', 0, 2))]), False)

    def test_changed_refutations(self):
        """Compare with the document's words after a change of any part of any line."""
        changed = accepted = 0
        for errand, times in some_cases(150, 5):
            lines = find_refutation(errand, times) or []
            for at, (step, time, reason) in list(enumerate(lines))[:12]:
                for line in changes(step, time, reason):
                    other = lines[:at] + [line] + lines[at + 1:]
                    wanted = is_refutation_by_words(errand, times, other)
                    self.assertIs(is_refutation(errand, times, other), wanted, (errand, times, other))
                    changed += 1
                    accepted += wanted
        self.assertGreater(accepted, 100)
        self.assertGreater(changed - accepted, 5000)

    def test_right_lines_hold_for_all_plans_with_the_times(self):
        """No plan with the times has a step before the time of a line."""
        chance = random.Random(6)
        checked = 0
        for errand, times in some_cases(150, 6):
            plans = plans_with(errand, times)
            lines = [(step, times[step], ('given',)) for step in times]
            for _ in range(40):
                reason = (chance.choice(WORDS), chance.randrange(4), chance.randrange(len(lines)))
                reason = reason[:1] + (reason[2:] if reason[0] in ('open', 'span') else reason[1:])
                step = chance.randrange(len(errand[0]))
                most = greatest(errand, times, lines, step, reason)
                if most not in (None, 'any'):
                    lines.append((step, most, reason))
            for step, time, _ in lines if plans else []:
                self.assertTrue(all(plan[step] >= time for plan in plans))
                checked += 1
            if plans:
                for step in times:
                    self.assertIs(is_refutation(errand, times, lines + [(step, times[step], ('given',))]), False)
        self.assertGreater(checked, 500)


def changes(step, time, reason):
    """Lines that differ from a line in one part."""
    for by in (-121, -1, 1, 121):
        yield (step, time + by, reason)
    for other in (step - 1, step + 1, 0, 1, 2, True, None, [step]):
        yield (other, time, reason)
    for word in WORDS + ('', 'Open', None):
        yield (step, time, (word,) + reason[1:])
    for at in range(1, len(reason)):
        for number in (reason[at] - 1, reason[at] + 1, -1, 0, 1, 10 ** 9, False, True, None, "0", (reason[at],)):
            yield (step, time, reason[:at] + (number,) + reason[at + 1:])
    yield (step, time, reason + (0,))
    yield (step, time, reason[:-1])
    yield (step, time, list(reason))
    yield [step, time, reason]
    yield (step, time)


class FindRefutation(unittest.TestCase):
    def check(self, errand, times):
        """Check a result against find_plan and the words, and return whether there is a refutation."""
        before = copy.deepcopy((errand, times))
        plan = find_plan(errand, times)
        lines = find_refutation(errand, times)
        self.assertEqual((errand, times), before)
        self.assertIs(lines is None, plan is not None, (errand, times))
        if lines is not None:
            self.assertIs(type(lines), list)
            self.assertIs(is_refutation(errand, times, lines), True, (errand, times))
            self.assertTrue(is_refutation_by_words(errand, times, lines), (errand, times))
            self.assertTrue(all(abs(number) < 10 ** 3000 for number in integers_of(lines)))
        return lines is not None

    def test_small_errands(self):
        found = [self.check(errand, times) for errand, times in some_cases(2000, 7)]
        self.assertGreater(found.count(True), 400)
        self.assertGreater(found.count(False), 400)

    def test_exactly_one_of_a_plan_and_a_refutation(self):
        for errand, times in some_cases(300, 8):
            self.assertIs(find_refutation(errand, times) is None, bool(plans_with(errand, times)))

    def test_all_starts_and_times(self):
        for errand in (POST, VISIT):
            for step in range(len(errand[0])):
                for time in range(-70, 71):
                    self.check(errand, {step: time})
        for pair in itertools.product(range(-10, 61, 5), range(-10, 61, 5)):
            self.check(POST, dict(enumerate(pair)))

    def test_one_step(self):
        for pattern in ((60, (7, 8)), ANY, NEVER, (12, (1, 2, 7))):
            for time in range(-61, 62):
                self.assertIs(self.check(((pattern,), ()), {0: time}), time % pattern[0] not in pattern[1])

    def test_patterns_without_times(self):
        for many in (1, 2, 3, 6):
            for empty, step in itertools.product(range(many), range(many)):
                patterns = [ANY] * many
                patterns[empty] = (60, ())
                for waits in ((), ((0, 1, -120, 120),), ((0, 1, 120, 120), (1, 0, None, 120)))[:3 if many > 1 else 1]:
                    self.assertTrue(self.check((tuple(patterns), waits), {step: 0}))
                    self.assertTrue(self.check((tuple(patterns), waits), {step: 10 ** 59}))
                    self.assertTrue(self.check((tuple(patterns), waits), {empty: -7, step: -7}))
                    self.assertTrue(self.check((tuple(patterns), waits), dict.fromkeys(range(many), 5)))
        self.assertTrue(self.check(((NEVER,) * 6, ()), {3: 5}))

    def test_at_120_and_beyond(self):
        free = ((ANY, ANY, ANY), ())
        for gap in (-122, -121, -120, 120, 121, 122):
            for step, other in ((0, 1), (1, 0), (0, 2), (2, 0)):
                self.assertIs(self.check(free, {step: 0, other: gap}), abs(gap) > 120)
        for gap in (-241, -240, -239, 239, 240, 241):
            self.assertIs(self.check(free, {1: 0, 2: gap}), abs(gap) > 240)

    def test_times_far_apart(self):
        for errand in (POST, VISIT, ((ANY, ANY, ANY), ()), ((ANY, ANY, ANY), ((1, 2, 5, None), (2, 1, 5, None)))):
            for one, other in itertools.permutations(range(len(errand[0])), 2):
                for gap in (300, 10 ** 59, 10 ** 60 - 1):
                    self.assertTrue(self.check(errand, {one: 0, other: gap}))
                    self.assertTrue(self.check(errand, {one: -gap, other: gap}))
        self.assertTrue(self.check(((ANY,) * 4, ((1, 2, 1, None),)), {1: 0, 2: 10 ** 59, 3: -10 ** 59}))

    def test_cycles_of_waits(self):
        for waits in (((1, 2, 1, None), (2, 1, 0, None)), ((1, 2, 1, None), (1, 2, None, 0)),
                      ((1, 2, 1, None), (2, 3, 0, None), (3, 4, 0, None), (4, 5, 0, None), (5, 1, 0, None)),
                      ((1, 2, None, -1), (1, 3, 0, None), (3, 2, 0, None)), ((0, 1, 1, None), (1, 0, 0, None)),
                      ((1, 2, 120, None), (2, 1, 120, None)), ((2, 1, -120, -119), (2, 1, -118, None))):
            for step in (0, 1, 5):
                for time in (-7, 10 ** 59):
                    self.assertTrue(self.check(((ANY,) * 6, waits), {step: time}))
                    self.assertTrue(self.check(((ANY, (2, (0,))) * 3, waits), {step: time}))

    def test_cycles_of_waits_that_agree(self):
        for waits in (((1, 2, 1, None), (2, 1, -1, None)), ((1, 2, 5, 5), (2, 3, 5, 5), (3, 1, -10, -10))):
            for step in range(6):
                self.assertFalse(self.check(((ANY,) * 6, waits), {step: 0}))

    def test_open_times_against_waits(self):
        errand = (((10, (0,)), (10, (5,))), ((0, 1, 6, 14),))
        for step, time in itertools.product((0, 1), (-10, -5, 0, 5, 10 ** 59, 10 ** 59 + 5)):
            self.assertTrue(self.check(errand, {step: time}))

    def test_negative_times_and_many_digits(self):
        for errand, times in some_cases(150, 9):
            for by in (-600, 60 * 10 ** 58, -60 * 10 ** 58):
                there = {step: times[step] + by for step in times}
                self.assertIs(self.check(errand, there), self.check(errand, times))

    def test_more_digits_still(self):
        for by in (60 * 10 ** 3990, -60 * 10 ** 3990):
            for times in ({0: 20 + by}, {1: by}, {0: by, 1: 0}, {0: by, 1: by + 20}):
                self.assertIs(is_refutation(POST, times, find_refutation(POST, times)), True)
            self.assertIsNone(find_refutation(POST, {0: by}))

    def test_a_new_list_at_each_call(self):
        first = find_refutation(POST, {0: 20})
        kept = list(first)
        first.clear()
        second = find_refutation(POST, {0: 20})
        self.assertIsNot(first, second)
        self.assertEqual(second, kept)

    def test_equal_results_for_equal_arguments(self):
        for errand, times in some_cases(200, 10):
            turned = dict(reversed(list(times.items())))
            self.assertEqual(find_refutation(errand, times), find_refutation(copy.deepcopy(errand), turned))


if __name__ == "__main__":
    unittest.main()

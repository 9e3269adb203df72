"""Point 16: a diary."""

import copy
import random
import unittest

from slotgaps.diary import Diary
from slotgaps.ends import windows
from slotgaps.errands import is_errand
from slotgaps.errors import DiaryFull, InvalidName, InvalidStep, NameInUse, NoPlan, SlotgapsError
from slotgaps.patterns import is_pattern
from slotgaps.plans import find_plan, is_plan
from slotgaps.refutations import find_refutation, is_refutation
from tests.samples import ANY, HUGE, MUCH, NEVER, POST, VISIT, nested, other_values
from tests.search import knotted_errands, plans_with, small_errands

FREE = ((ANY, ANY, ANY), ())
ROOMY = (((20, (0, 5)), (10, (0,)), (15, (0, 2, 7))), ((0, 1, 5, 40), (1, 2, -10, 25)))
EIGHT_NAMES = ["one", "two", "three", "four", "five", "six", "seven", "eight"]
NO_NAMES = ["", "abcdefghi", "A", "One", "a1", "a b", " a", "a ", "a\n", "\na", "a\0", "a-b", "a_b", "1", "\u00e4",
            "\u0430", "\u00df", "`", "{", "a{", "`a", "zzzzzzzzz", "a" * 20000, b"one", ["one"], ("one",), {"one": 0}]


def strange_values():
    """Values of many kinds, none of which is a name or the index of a step or a time with a plan."""
    plan = find_plan(VISIT, {0: 0})
    return other_values() + NO_NAMES + [
        plan, list(plan), windows(VISIT, {0: 0}), find_refutation(VISIT, {0: 1}), VISIT, Diary(VISIT), nested(60),
        ["one", 0], {"one": {0: 0}}, {1: 1}, [None] * 20000]


def is_integer(value):
    return type(value) is int


class Record:
    """A plain record of a diary: all entries as they are, and as they were before each change."""

    def __init__(self, errand):
        self.errand = errand
        self.entries = {}
        self.before = []
        self.found = {}

    def plans(self, times):
        key = tuple(sorted(times.items()))
        if key not in self.found:
            self.found[key] = plans_with(self.errand, times)
        return self.found[key]

    def keep(self, word):
        self.before.append((word, copy.deepcopy(self.entries)))

    def begin(self, name, start):
        letters = isinstance(name, str) and all(letter in "abcdefghijklmnopqrstuvwxyz" for letter in name)
        if not letters or not 1 <= len(name) <= 8:
            return InvalidName
        if name in self.entries:
            return NameInUse
        if len(self.entries) == 8:
            return DiaryFull
        if not is_integer(start) or not self.plans({0: start}):
            return NoPlan
        self.keep("begin")
        self.entries[name] = {0: start}

    def do(self, name, step, time):
        if not isinstance(name, str) or name not in self.entries:
            return InvalidName
        if not is_integer(step) or not 0 <= step < len(self.errand[0]) or step in self.entries[name]:
            return InvalidStep
        if not is_integer(time) or not self.plans({**self.entries[name], step: time}):
            return NoPlan
        self.keep("do")
        self.entries[name][step] = time

    def cancel(self, name):
        if not isinstance(name, str) or name not in self.entries:
            return InvalidName
        self.keep("cancel")
        del self.entries[name]

    def undo(self):
        if not self.before:
            return None
        word, self.entries = self.before.pop()
        return word

    def windows(self, name):
        return [(min(column), max(column)) for column in zip(*self.plans(self.entries[name]))]

    def due(self, time):
        return [name for name in sorted(self.entries) if any(
            last < time for step, (_, last) in enumerate(self.windows(name)) if step not in self.entries[name])]


def caught(call, *arguments):
    """The error that a call raises, or what it returns."""
    try:
        return call(*arguments)
    except SlotgapsError as error:
        return error


def shown(diary, times=()):
    """All that a diary tells, but for what can be undone."""
    names = diary.names()
    return ([(name, diary.done(name), diary.plan(name), diary.windows(name)) for name in names],
            [diary.due(time) for time in times])


def full_diary():
    diary = Diary(VISIT)
    for at, name in enumerate(EIGHT_NAMES):
        diary.begin(name, 60 * at)
    return diary


class Example(unittest.TestCase):
    def test_all(self):
        diary = Diary(VISIT)
        self.assertIsNone(diary.begin('one', 0))
        got = [diary.plan('one'), diary.windows('one'), diary.due(20), diary.due(21)]
        self.assertEqual(got, [(0, 20, 25), [(0, 0), (20, 20), (25, 25)], [], ['one']])
        with self.assertRaises(NoPlan):
            diary.do('one', 1, 10)
        self.assertIsNone(diary.do('one', 2, 25))
        got = [diary.done('one'), diary.undo(), diary.undo(), diary.undo()]
        self.assertEqual(got, [{0: 0, 2: 25}, 'do', 'begin', None])


class LongHistories(unittest.TestCase):
    NAMES = ["a", "b", "ab", "ba", "zz", "abcdefgh", "one", "two", "three", "x"]

    def some_name(self, chance, record, known):
        if chance.random() < 0.06:
            return chance.choice(NO_NAMES)
        if record.entries and chance.random() < known:
            return chance.choice(sorted(record.entries))
        return chance.choice(self.NAMES)

    def some_time(self, chance, good):
        """One of the good times, mostly."""
        if good and chance.random() < 0.7:
            return chance.choice(good)
        return chance.choice((chance.randint(-70, 130), chance.randint(-70, 130), True, None, "0", [0], (0,), HUGE))

    def some_call(self, chance, record):
        """The name of a method with arguments: right ones, mostly."""
        steps = len(record.errand[0])
        word = chance.choice(("begin",) * 9 + ("do",) * 12 + ("cancel", "undo", "undo", "undo"))
        if word == "begin":
            starts = [start for start in range(-60, 121) if record.plans({0: start})]
            return word, (self.some_name(chance, record, 0.1), self.some_time(chance, starts))
        if word == "do":
            name = self.some_name(chance, record, 0.9)
            step = chance.choice(list(range(steps)) * 3 + [0, steps, -1, True, None, "1"])
            known = isinstance(name, str) and name in record.entries and is_integer(step) and 0 <= step < steps
            good = [plan[step] for plan in record.plans(record.entries[name])] if known else []
            return word, (name, step, self.some_time(chance, good))
        return word, (self.some_name(chance, record, 0.8),) if word == "cancel" else ()

    def check_answer(self, diary, record, word, arguments):
        before = copy.deepcopy(arguments)
        wanted = getattr(record, word)(*arguments)
        got = caught(getattr(diary, word), *arguments)
        self.assertEqual(arguments, before)
        if isinstance(wanted, type):
            self.assertIs(type(got), wanted, (word, arguments))
        else:
            self.assertEqual((got, type(got)), (wanted, type(wanted)), (word, arguments))
        return (word, wanted)

    def check_state(self, diary, record, time):
        names = sorted(record.entries)
        self.assertEqual(diary.names(), names)
        self.assertEqual([diary.done(name) for name in names], [record.entries[name] for name in names])
        self.assertEqual([diary.windows(name) for name in names], [record.windows(name) for name in names])
        self.assertEqual([diary.plan(name) for name in names],
                         [tuple(first for first, _ in record.windows(name)) for name in names])
        self.assertEqual(diary.due(time), record.due(time))

    def check(self, errand, calls, seed):
        """A history of calls, and then the undoing of all that is left."""
        chance = random.Random(seed)
        diary, record = Diary(errand), Record(errand)
        answers = []
        for at in range(calls):
            word, arguments = self.some_call(chance, record)
            answers.append(self.check_answer(diary, record, word, arguments))
            if at % 4 == 0:
                self.check_state(diary, record, chance.randint(-140, 200))
        while answers[-1] != ("undo", None):
            answers.append(self.check_answer(diary, record, "undo", ()))
            self.check_state(diary, record, chance.randint(-140, 200))
        self.assertEqual(diary, Diary(errand))
        return answers

    def test_random_histories(self):
        answers = []
        errands = [POST, VISIT, ROOMY] + small_errands(8, 2, seed=12) + small_errands(12, 3, seed=12)
        for at, errand in enumerate(errands + [e for steps in (1, 2, 4, 5, 6) for e in knotted_errands(4, steps, 12)]):
            answers += self.check(errand, 60, at)
        for word, wanted in (
                ("begin", InvalidName), ("begin", NameInUse), ("begin", NoPlan), ("begin", None), ("do", InvalidName),
                ("do", InvalidStep), ("do", NoPlan), ("do", None), ("cancel", InvalidName), ("cancel", None),
                ("undo", "begin"), ("undo", "do"), ("undo", "cancel"), ("undo", None)):
            self.assertGreater(answers.count((word, wanted)), 20, (word, wanted))

    def test_long_histories(self):
        for at, errand in enumerate((VISIT, POST, ROOMY)):
            answers = self.check(errand, 1200, 100 + at)
            self.assertGreater(answers.count(("begin", DiaryFull)), 5)
            self.assertGreater(sum(wanted == "begin" for _, wanted in answers), 50)

    def test_hundreds_of_entries_under_the_same_names(self):
        diary = Diary(POST)
        for many in range(300):
            for name in ("one", "two"):
                diary.begin(name, 30 * many)
                self.assertIsInstance(caught(diary.begin, name, 30 * many), NameInUse)
            diary.do("one", 1, 30 * many + 5)
            self.assertEqual(diary.done("one"), {0: 30 * many, 1: 30 * many + 5})
            self.assertEqual(diary.due(30 * many + 200), ["two"])
            diary.cancel("one")
            diary.cancel("two")
            self.assertEqual(diary.names(), [])
        for many in range(299, -1, -1):
            self.assertEqual([diary.undo(), diary.undo()], ["cancel", "cancel"])
            self.assertEqual(diary.done("one"), {0: 30 * many, 1: 30 * many + 5})
            self.assertEqual(diary.done("two"), {0: 30 * many})
            self.assertEqual([diary.undo(), diary.undo(), diary.undo()], ["do", "begin", "begin"])
        self.assertEqual((diary.undo(), diary.names()), (None, []))


class Begin(unittest.TestCase):
    def test_names(self):
        diary = Diary(FREE)
        for name in ("a", "z", "az", "abcdefgh", "zzzzzzzz", "done", "undo", "entries"):
            self.assertIsNone(diary.begin(name, 7))
        self.assertEqual(diary.names(), ["a", "abcdefgh", "az", "done", "entries", "undo", "z", "zzzzzzzz"])

    def test_values_that_are_not_names(self):
        diary = Diary(FREE)
        for name in strange_values():
            if name not in ("a", "ab"):
                error = caught(diary.begin, name, 0)
                self.assertIs(type(error), InvalidName, name)
                self.assertIs(error.name, name)
        self.assertEqual((diary.names(), diary.undo()), ([], None))

    def test_name_in_use(self):
        diary = Diary(VISIT)
        diary.begin("one", 0)
        for start in (0, 60, 1, None, HUGE):
            error = caught(diary.begin, "one", start)
            self.assertEqual((type(error), error.name), (NameInUse, "one"))
        diary.cancel("one")
        self.assertIsNone(diary.begin("one", 60))

    def test_full(self):
        diary = full_diary()
        for start in (0, 600, 1, None, "x", True):
            error = caught(diary.begin, "nine", start)
            self.assertEqual((type(error), error.limit), (DiaryFull, 8))
            self.assertIs(type(caught(diary.begin, "eight", start)), NameInUse)
            self.assertIs(type(caught(diary.begin, "Nine", start)), InvalidName)
        self.assertEqual(diary.names(), sorted(EIGHT_NAMES))
        diary.cancel("three")
        self.assertIsNone(diary.begin("nine", 600))
        self.assertIs(type(caught(diary.begin, "three", 0)), DiaryFull)
        self.assertEqual([diary.undo(), diary.undo()], ["begin", "cancel"])
        self.assertEqual(diary, full_diary())
        self.assertEqual(diary.undo(), "begin")
        self.assertIsNone(diary.begin("nine", 600))

    def test_starts_without_a_plan(self):
        for errand in (VISIT, POST):
            diary = Diary(errand)
            for start in [1, -1, 20, 59, HUGE, -HUGE, 10 ** 59 + 1]:
                self.assertIs(type(caught(diary.begin, "one", start)), NoPlan)
            self.assertEqual((diary.names(), diary.undo()), ([], None))
        for errand in (((NEVER,), ()), ((ANY, NEVER), ())):
            self.assertIs(type(caught(Diary(errand).begin, "one", 0)), NoPlan)

    def test_starts_that_are_not_integers(self):
        for errand in (FREE, VISIT):
            diary = Diary(errand)
            for start in strange_values():
                if not is_integer(start):
                    self.assertIs(type(caught(diary.begin, "one", start)), NoPlan)
            self.assertEqual((diary.names(), diary.undo()), ([], None))

    def test_starts_of_many_digits(self):
        for by in MUCH:
            diary = Diary(VISIT)
            diary.begin("one", by)
            self.assertEqual((diary.done("one"), diary.plan("one")), ({0: by}, (by, by + 20, by + 25)))
            self.assertEqual(diary.windows("one"), [(by, by), (by + 20, by + 20), (by + 25, by + 25)])
            diary.do("one", 1, by + 20)
            self.assertEqual([diary.due(by + 25), diary.due(by + 26)], [[], ["one"]])


class Do(unittest.TestCase):
    def test_names_without_an_entry(self):
        diary = Diary(VISIT)
        diary.begin("one", 0)
        for name in strange_values() + ["two", "on", "onee", "a", "abcdefgh"]:
            for step, time in ((1, 20), (9, None)):
                error = caught(diary.do, name, step, time)
                self.assertIs(type(error), InvalidName)
                self.assertIs(error.name, name)
        self.assertEqual(diary.done("one"), {0: 0})

    def test_values_that_are_not_steps(self):
        diary = Diary(VISIT)
        diary.begin("one", 0)
        steps = [value for value in strange_values() if not (is_integer(value) and value in (1, 2))]
        for step in steps + [-1, -2, -3, 3, 4, 0, True, False, "1", 10 ** 59 + 1]:
            for time in (20, 25, 0, None):
                error = caught(diary.do, "one", step, time)
                self.assertIs(type(error), InvalidStep)
                self.assertIs(error.step, step)
        self.assertEqual(diary.done("one"), {0: 0})
        self.assertEqual([diary.undo(), diary.undo()], ["begin", None])

    def test_steps_that_are_done(self):
        diary = Diary(VISIT)
        diary.begin("one", 0)
        diary.do("one", 2, 25)
        for step, time in ((0, 0), (2, 25), (2, 26), (2, None)):
            error = caught(diary.do, "one", step, time)
            self.assertEqual((type(error), error.step), (InvalidStep, step))
        diary.do("one", 1, 20)
        self.assertIs(type(caught(diary.do, "one", 1, 20)), InvalidStep)
        self.assertEqual(diary.done("one"), {0: 0, 1: 20, 2: 25})
        self.assertEqual(diary.undo(), "do")
        self.assertIsNone(diary.do("one", 1, 20))

    def test_times_without_a_plan(self):
        diary = Diary(VISIT)
        diary.begin("one", 0)
        for step, time in ((1, 10), (1, 21), (1, 80), (2, 24), (2, 55), (1, HUGE), (2, -HUGE)):
            self.assertIs(type(caught(diary.do, "one", step, time)), NoPlan)
        for time in strange_values():
            if not is_integer(time):
                self.assertIs(type(caught(diary.do, "one", 1, time)), NoPlan)
        self.assertEqual(diary.done("one"), {0: 0})
        self.assertEqual([diary.undo(), diary.undo()], ["begin", None])

    def test_done_steps_narrow_the_others(self):
        diary = Diary((((60, (0,)), (10, (0,)), (10, (5,))), ((0, 1, 5, 40), (1, 2, 1, 10))))
        diary.begin("one", 60)
        diary.begin("two", 60)
        diary.do("one", 1, 80)
        self.assertIs(type(caught(diary.do, "one", 2, 75)), NoPlan)
        self.assertIs(type(caught(diary.do, "one", 2, 95)), NoPlan)
        diary.do("two", 2, 75)
        diary.do("one", 2, 85)
        self.assertEqual((diary.done("one"), diary.done("two")), ({0: 60, 1: 80, 2: 85}, {0: 60, 2: 75}))
        self.assertEqual((diary.plan("one"), diary.plan("two")), ((60, 80, 85), (60, 70, 75)))


class Errors(unittest.TestCase):
    def test_an_error_changes_no_state(self):
        for errand in (VISIT, ROOMY):
            diary = Diary(errand)
            for at, name in enumerate(EIGHT_NAMES):
                diary.begin(name, 60 * at)
            diary.do("one", 1, diary.plan("one")[1])
            diary.cancel("two")
            diary.cancel("six")
            diary.begin("six", 600)
            twin = copy.deepcopy(diary)
            before = shown(diary, range(-20, 700, 15))
            for call, arguments in (
                    (diary.begin, ("One", 0)), (diary.begin, ("one", 60)), (diary.begin, ("nine", 61)),
                    (diary.begin, ("nine", None)), (diary.do, ("nine", 1, 20)), (diary.do, ("one", 1, 20)),
                    (diary.do, ("one", 9, 20)), (diary.do, ("three", 1, 1)), (diary.do, ("three", 1, "1")),
                    (diary.cancel, ("two",)), (diary.cancel, (None,)), (diary.done, ("two",)), (diary.plan, ("two",)),
                    (diary.windows, ("two",)), (diary.done, (["one"],))):
                self.assertIsInstance(caught(call, *arguments), SlotgapsError)
                self.assertEqual(shown(diary, range(-20, 700, 15)), before)
                self.assertEqual(diary, twin)
            while twin.undo() is not None:
                self.assertIsNotNone(diary.undo())
                self.assertEqual((diary, shown(diary)), (twin, shown(twin)))
            self.assertIsNone(diary.undo())

    def test_reading_changes_no_state(self):
        diary = full_diary()
        before = shown(diary, range(0, 600, 25))
        self.assertEqual(shown(diary, range(0, 600, 25)), before)
        self.assertEqual(diary, full_diary())
        self.assertEqual([diary.undo() for _ in range(9)], ["begin"] * 8 + [None])

    def test_names_without_an_entry(self):
        diary = Diary(VISIT)
        diary.begin("one", 0)
        diary.begin("gone", 0)
        diary.cancel("gone")
        for name in strange_values() + ["two", "gone", "on", "onee", "a"]:
            for call in (diary.cancel, diary.done, diary.plan, diary.windows):
                error = caught(call, name)
                self.assertIs(type(error), InvalidName)
                self.assertIs(error.name, name)
        self.assertEqual(diary.names(), ["one"])

    def test_arguments_do_not_change(self):
        diary = Diary(VISIT)
        diary.begin("one", 0)
        for value in strange_values():
            if not isinstance(value, Diary):
                before = copy.deepcopy(value)
                for call, arguments in ((diary.begin, (value, value)), (diary.begin, ("two", value)),
                                        (diary.do, (value, value, value)), (diary.do, ("one", value, value)),
                                        (diary.do, ("one", 1, value)), (diary.cancel, (value,)), (diary.done, (value,)),
                                        (diary.plan, (value,)), (diary.windows, (value,))):
                    caught(call, *arguments)
                self.assertEqual(value, before)


class Undo(unittest.TestCase):
    def test_nothing_to_undo(self):
        diary = Diary(VISIT)
        self.assertEqual([diary.undo(), diary.undo()], [None, None])
        diary.begin("one", 0)
        self.assertEqual([diary.undo(), diary.undo()], ["begin", None])

    def test_a_cancelled_entry_comes_back_with_its_done_steps(self):
        diary = Diary(VISIT)
        diary.begin("one", 0)
        diary.do("one", 2, 25)
        diary.cancel("one")
        diary.begin("one", 60)
        diary.do("one", 1, 80)
        self.assertEqual(diary.done("one"), {0: 60, 1: 80})
        self.assertEqual([diary.undo(), diary.done("one")], ["do", {0: 60}])
        self.assertEqual([diary.undo(), diary.names()], ["begin", []])
        self.assertEqual([diary.undo(), diary.done("one")], ["cancel", {0: 0, 2: 25}])
        self.assertEqual([diary.undo(), diary.done("one")], ["do", {0: 0}])
        self.assertEqual([diary.undo(), diary.undo(), diary.names()], ["begin", None, []])

    def test_changes_after_an_undo(self):
        diary = Diary(VISIT)
        diary.begin("one", 0)
        diary.begin("two", 60)
        self.assertEqual(diary.undo(), "begin")
        diary.do("one", 1, 20)
        self.assertEqual([diary.undo(), diary.undo(), diary.undo()], ["do", "begin", None])

    def test_each_one_of_several_entries(self):
        diary = Diary(VISIT)
        diary.begin("one", 0)
        diary.begin("two", 60)
        diary.do("one", 1, 20)
        diary.do("two", 1, 80)
        diary.cancel("one")
        self.assertEqual([diary.undo(), shown(diary)[0][0][1]], ["cancel", {0: 0, 1: 20}])
        self.assertEqual([diary.undo(), diary.done("two"), diary.done("one")], ["do", {0: 60}, {0: 0, 1: 20}])
        self.assertEqual([diary.undo(), diary.done("two"), diary.done("one")], ["do", {0: 60}, {0: 0}])
        self.assertEqual([diary.undo(), diary.names()], ["begin", ["one"]])


class Due(unittest.TestCase):
    def test_before_at_and_after_the_latest_time(self):
        diary = Diary((((60, (0,)), (10, (0,))), ((0, 1, 5, 40),)))
        diary.begin("one", 0)
        self.assertEqual([diary.due(time) for time in (-10 ** 59, 0, 10, 39, 40, 41, 10 ** 59)],
                         [[], [], [], [], [], ["one"], ["one"]])
        diary.do("one", 1, 10)
        self.assertEqual([diary.due(time) for time in (0, 41, 10 ** 59, HUGE)], [[]] * 4)

    def test_steps_that_are_done_do_not_count(self):
        diary = Diary(VISIT)
        diary.begin("one", 0)
        self.assertEqual([diary.due(0), diary.due(20), diary.due(21)], [[], [], ["one"]])
        diary.do("one", 1, 20)
        self.assertEqual([diary.due(21), diary.due(25), diary.due(26)], [[], [], ["one"]])
        diary.do("one", 2, 25)
        self.assertEqual(diary.due(10 ** 59), [])

    def test_any_step_counts(self):
        diary = Diary(((ANY, ANY, ANY), ((0, 1, None, 50), (0, 2, None, 10))))
        diary.begin("one", 0)
        self.assertEqual([diary.due(10), diary.due(11), diary.due(51)], [[], ["one"], ["one"]])
        diary.do("one", 2, -5)
        self.assertEqual([diary.due(11), diary.due(50), diary.due(51)], [[], [], ["one"]])

    def test_names_in_ascending_order(self):
        diary = full_diary()
        self.assertEqual(diary.due(-1), [])
        self.assertEqual(diary.due(21), ["one"])
        self.assertEqual(diary.due(60 * 4 + 21), ["five", "four", "one", "three", "two"])
        self.assertEqual(diary.due(HUGE), sorted(EIGHT_NAMES))

    def test_one_step(self):
        diary = Diary(((ANY,), ()))
        diary.begin("one", 0)
        self.assertEqual((diary.due(10 ** 59), diary.plan("one"), diary.windows("one")), ([], (0,), [(0, 0)]))
        self.assertIs(type(caught(diary.do, "one", 1, 0)), InvalidStep)


class Equality(unittest.TestCase):
    def check(self, one, other, wanted):
        for left, right in ((one, other), (other, one)):
            self.assertIs(left == right, wanted)
            self.assertIs(left != right, not wanted)

    def test_new_diaries(self):
        self.check(Diary(VISIT), Diary(copy.deepcopy(VISIT)), True)
        self.check(Diary(VISIT), Diary(POST), False)
        self.check(Diary(POST), Diary((((30, (0, 10)), (60, (5, 20, 35, 50))), ((0, 1, 5, 10),))), False)
        self.check(Diary(((ANY,), ())), Diary((((2, (0, 1)),), ())), False)

    def test_entries(self):
        one, other = Diary(VISIT), Diary(VISIT)
        one.begin("one", 0)
        self.check(one, other, False)
        other.begin("two", 0)
        self.check(one, other, False)
        other.begin("one", 0)
        self.check(one, other, False)
        other.cancel("two")
        self.check(one, other, True)
        one.do("one", 1, 20)
        self.check(one, other, False)
        other.do("one", 2, 25)
        self.check(one, other, False)
        other.do("one", 1, 20)
        one.do("one", 2, 25)
        self.check(one, other, True)

    def test_times(self):
        one, other = Diary(ROOMY), Diary(ROOMY)
        one.begin("one", 0)
        other.begin("one", 60)
        self.check(one, other, False)
        other.undo()
        other.begin("one", 0)
        self.check(one, other, True)
        one.do("one", 1, 10)
        other.do("one", 1, 20)
        self.check(one, other, False)

    def test_errands_with_the_same_entries(self):
        one, other = Diary(VISIT), Diary((VISIT[0], VISIT[1] + VISIT[1][:1]))
        for diary in (one, other):
            diary.begin("one", 0)
        self.check(one, other, False)

    def test_what_can_be_undone_does_not_count(self):
        one, other = Diary(VISIT), Diary(VISIT)
        one.begin("one", 0)
        one.cancel("one")
        self.check(one, other, True)
        one.undo()
        self.check(one, other, False)
        one.undo()
        self.check(one, other, True)

    def test_the_order_of_the_entries_does_not_count(self):
        one, other = full_diary(), Diary(VISIT)
        for at in range(7, -1, -1):
            other.begin(EIGHT_NAMES[at], 60 * at)
        self.check(one, other, True)

    def test_other_values(self):
        diary = Diary(VISIT)
        diary.begin("one", 0)
        self.check(diary, diary, True)
        for value in strange_values():
            if not isinstance(value, Diary):
                self.check(diary, value, False)
        for value in ({"one": {0: 0}}, ["one"], {0: 0}, VISIT, (VISIT, {"one": {0: 0}}), object()):
            self.check(diary, value, False)


class Copies(unittest.TestCase):
    def test_returned_lists_and_dicts_may_be_changed(self):
        diary = full_diary()
        before = shown(diary)
        for told in (diary.names(), diary.windows("one"), diary.due(HUGE)):
            self.assertIs(type(told), list)
            told.append("nine")
            told[0] = None
            told.clear()
        done = diary.done("one")
        self.assertIs(type(done), dict)
        done[1] = 20
        done[0] = 7
        self.assertEqual(shown(diary), before)
        self.assertEqual(diary, full_diary())
        done.clear()
        diary.do("one", 1, 20)
        self.assertEqual(diary.undo(), "do")
        self.assertEqual(shown(diary), before)

    def test_a_dict_from_before_a_change_stays(self):
        diary = Diary(VISIT)
        diary.begin("one", 0)
        done = diary.done("one")
        diary.do("one", 1, 20)
        self.assertEqual(done, {0: 0})
        done[5] = 5
        self.assertEqual([diary.undo(), diary.done("one")], ["do", {0: 0}])

    def test_each_call_returns_a_new_one(self):
        diary = full_diary()
        for call, arguments in (
                (diary.names, ()), (diary.done, ("one",)), (diary.windows, ("one",)), (diary.due, (99,))):
            self.assertIsNot(call(*arguments), call(*arguments))
            self.assertEqual(call(*arguments), call(*arguments))

    def test_the_errand_is_kept(self):
        patterns, waits = list(VISIT[0]), list(VISIT[1])
        errand = (tuple(patterns), tuple(waits))
        diary = Diary(errand)
        patterns.pop()
        waits.clear()
        errand = None
        diary.begin("one", 0)
        self.assertEqual(diary.windows("one"), [(0, 0), (20, 20), (25, 25)])
        self.assertEqual(diary, diary)
        self.assertIs(type(caught(diary.do, "one", 1, 10)), NoPlan)
        self.assertIsNone(errand)

    def test_two_diaries_of_one_errand(self):
        one, other = Diary(VISIT), Diary(VISIT)
        one.begin("one", 0)
        self.assertEqual((other.names(), other.undo()), ([], None))
        self.assertIs(type(caught(other.done, "one")), InvalidName)

    def test_the_errand_does_not_change(self):
        before = copy.deepcopy(VISIT)
        full_diary().due(100)
        self.assertEqual(VISIT, before)


class Values(unittest.TestCase):
    def test_a_diary_is_a_value_of_any_kind_too(self):
        lines = find_refutation(VISIT, {0: 1})
        for diary in (Diary(VISIT), full_diary()):
            for value in (diary, (diary,), [diary], (60, diary), (diary, (0,)), (60, (diary,)), (diary, diary, diary),
                          {0: diary}, ((ANY, diary), ()), ((ANY, ANY), (diary,)), ((ANY, ANY), ((0, 1, diary, None),))):
                self.assertEqual([is_pattern(value), is_errand(value), is_plan(VISIT, value)], [False] * 3)
                self.assertEqual([is_plan(FREE, (0, value, 0)), is_plan(FREE, (value, 0, 0))], [False] * 2)
                for refutation in (value, [value], lines + [value], lines + [(0, 9, value)],
                                   lines + [(0, value, lines)], lines + [(0, 9, (value,))],
                                   lines + [(0, 9, ("open", value))], lines + [(0, 9, (value, 0))],
                                   lines + [(0, 9, ("low", value, 0))],
                                   lines + [(value, 9, ("given",))]):
                    self.assertIs(is_refutation(VISIT, {0: 1}, refutation), False)


class Agreement(unittest.TestCase):
    def test_plans_and_windows(self):
        for errand in [VISIT, POST, ROOMY] + small_errands(10, 3, seed=13):
            diary = Diary(errand)
            start = next((start for start in range(60) if find_plan(errand, {0: start})), None)
            if start is not None:
                diary.begin("one", start)
                for step in range(len(errand[0]) - 1, 0, -1):
                    done = diary.done("one")
                    self.assertEqual(diary.plan("one"), find_plan(errand, done))
                    self.assertEqual(diary.windows("one"), windows(errand, done))
                    diary.do("one", step, diary.windows("one")[step][1])
                self.assertEqual(is_plan(errand, diary.plan("one")), True)
                self.assertEqual(dict(enumerate(diary.plan("one"))), diary.done("one"))


if __name__ == "__main__":
    unittest.main()

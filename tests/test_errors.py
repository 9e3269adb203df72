"""Point 2 and the errors of the interface."""

import unittest

from slotgaps.errors import DiaryFull, InvalidName, InvalidStep, NameInUse, NoPlan, SlotgapsError
from tests.samples import HUGE, other_values

WITH_ARGUMENT = ((InvalidName, "name"), (NameInUse, "name"), (DiaryFull, "limit"), (InvalidStep, "step"))
ALL = tuple(one for one, _ in WITH_ARGUMENT) + (NoPlan,)


class Family(unittest.TestCase):
    def test_the_base_is_a_value_error(self):
        self.assertEqual(SlotgapsError.__bases__, (ValueError,))
        self.assertIsInstance(SlotgapsError("why"), ValueError)

    def test_each_other_one_is_a_direct_subclass(self):
        for one in ALL:
            self.assertEqual(one.__bases__, (SlotgapsError,), one)

    def test_none_is_another_one(self):
        for one in ALL:
            error = one("abc")
            self.assertIsInstance(error, SlotgapsError)
            self.assertIsInstance(error, ValueError)
            for other in ALL:
                self.assertEqual(isinstance(error, other), other is one, (one, other))

    def test_each_one_can_be_caught_by_each_of_its_classes(self):
        for one in ALL:
            for caught in (one, SlotgapsError, ValueError):
                with self.assertRaises(caught):
                    raise one("abc")


class Arguments(unittest.TestCase):
    def test_the_attribute_is_the_value_that_was_given(self):
        values = ["abc", 8, 0, -1, True, False, None] + other_values()
        for one, attribute in WITH_ARGUMENT:
            for value in values:
                self.assertIs(getattr(one(value), attribute), value)

    def test_no_attribute_of_another_name(self):
        for one, attribute in WITH_ARGUMENT:
            for other in {"name", "limit", "step"} - {attribute}:
                self.assertFalse(hasattr(one(1), other), (one, other))

    def test_exactly_one_argument(self):
        for one in ALL:
            with self.assertRaises(TypeError):
                one()
            with self.assertRaises(TypeError):
                one("a", "b")

    def test_the_argument_does_not_change(self):
        for one, _ in WITH_ARGUMENT:
            value = [1, {"a": [2]}]
            one(value)
            self.assertEqual(value, [1, {"a": [2]}])

    def test_a_message_can_be_shown_for_any_value(self):
        for one, _ in WITH_ARGUMENT:
            for value in (HUGE, 10 ** 5000, None, ["a"]):
                self.assertIsInstance(str(one(value)), str)

    def test_no_plan_shows_its_message(self):
        self.assertEqual(str(NoPlan("too late")), "too late")


if __name__ == "__main__":
    unittest.main()

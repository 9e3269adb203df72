"""Cycles: the times from 0 to 59 that a step has in plans; they come again for ever."""

from slotgaps.ends import earliest_from
from slotgaps.patterns import CYCLE, smallest


def first_plans(errand, step):
    """Return the earliest plan with each time from 0 to 59 that a step has in plans."""
    plans = []
    plan = earliest_from(errand, step, 0)
    while plan is not None and plan[step] < CYCLE:
        plans.append(plan)
        plan = earliest_from(errand, step, plan[step] + 1)
    return plans


def used_pattern(errand, step):
    """Return the smallest pattern of the times that a step has in plans."""
    return smallest((CYCLE, tuple([plan[step] for plan in first_plans(errand, step)])))

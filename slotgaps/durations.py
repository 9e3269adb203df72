"""Durations: how long it is from one step to another one."""

from slotgaps.cycles import first_plans
from slotgaps.ends import earliest_from
from slotgaps.errands import negated


def shortest(errand, i, j):
    """Return the least duration from step i to step j, or None if there is no plan."""
    # Among the plans with one time of step i, the earliest one has the least duration.
    return min([plan[j] - plan[i] for plan in first_plans(errand, i)], default=None)


def longest(errand, i, j):
    """Return the greatest duration from step i to step j, or None if there is no plan."""
    return negated(shortest(errand, j, i))


def find_duration(errand, i, j, duration):
    """Return a plan with this duration from step i to step j, or None."""
    patterns, waits = errand
    # Not a wait that an errand may have (i may be j, and it may be too long or
    # one too many), but it pushes the steps as any wait does.
    exact = (i, j, duration, duration)
    return earliest_from((patterns, waits + (exact,)), i, 0)

"""Walks: plans by always taking the next open time."""

from slotgaps.climbs import wait_pushes
from slotgaps.cycles import first_plans
from slotgaps.errands import MOST_TIME
from slotgaps.patterns import next_time
from slotgaps.plans import is_plan


def walk(errand, start):
    """Return the plan of the walk from a start, or None if it does not succeed."""
    patterns, waits = errand
    times = [start]
    for pattern in patterns[1:]:
        time = next_time(pattern, demanded_time(waits, times))
        if time is None:
            return None
        times.append(time)
    plan = tuple(times)
    return plan if is_plan(errand, plan) else None


def demanded_time(waits, times):
    """Return the time that the next step is not before; the steps before it have these times."""
    step = len(times)
    demands = [times[i] + gap for i, j, gap, _ in wait_pushes(waits) if j == step and i < step]
    return max([times[0] - MOST_TIME] + demands)


def find_failure(errand):
    """Return the first good start from 0 to 59 whose walk does not succeed, or None."""
    for plan in first_plans(errand, 0):
        if walk(errand, plan[0]) is None:
            return plan[0]
    return None

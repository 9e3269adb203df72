"""Plans: times for all steps, open and with all waits."""

from slotgaps.climbs import lowest_plan
from slotgaps.errands import MOST_TIME, wait_holds
from slotgaps.patterns import contains
from slotgaps.values import is_integer, is_tuple


def is_plan(errand, value):
    """Return whether a value of any kind is a plan of an errand."""
    patterns, waits = errand
    steps = len(patterns)
    if not is_tuple(value, steps, steps) or not all([is_integer(t) for t in value]):
        return False
    if not all([contains(p, t) for p, t in zip(patterns, value)]):
        return False
    near = all([-MOST_TIME <= t - value[0] <= MOST_TIME for t in value])
    return near and all([wait_holds(w, value) for w in waits])


def find_plan(errand, times):
    """Return the earliest plan that has the given times, or None."""
    return lowest_plan(errand, times, times)

"""Starts: from which times an errand can be done."""

from slotgaps.cycles import used_pattern
from slotgaps.ends import earliest_from
from slotgaps.patterns import next_time


def good_starts(errand):
    """Return the smallest pattern of the good starts."""
    return used_pattern(errand, 0)


def next_good(errand, time):
    """Return the first good start that is not before a time, or None."""
    plan = earliest_from(errand, 0, time)
    return None if plan is None else plan[0]


def worst_wait(errand):
    """Return how long the next good start can be away at most, or None if there is none."""
    good = good_starts(errand)
    period, times = good
    return max([next_time(good, t) - t for t in range(period)]) if times else None

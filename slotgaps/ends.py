"""Ends: the earliest and the latest ones among some plans."""

from slotgaps.climbs import lowest_plan
from slotgaps.errands import mirrored
from slotgaps.patterns import CYCLE
from slotgaps.plans import find_plan


def earliest(errand, start):
    """Return the earliest plan with this start, or None."""
    return find_plan(errand, {0: start})


def latest(errand, start):
    """Return the latest plan with this start, or None."""
    return find_last_plan(errand, {0: start})


def find_last_plan(errand, times):
    """Return the latest plan that has the given times, or None."""
    return mirrored_plan(find_plan(mirrored(errand), {i: -times[i] for i in times}))


def mirrored_plan(plan):
    """Return the plan of the mirrored errand, None for None."""
    return None if plan is None else tuple([-t for t in plan])


def earliest_from(errand, i, time):
    """Return the earliest plan in which step i is not before a time, or None."""
    # A plan that is moved by a whole cycle stays a plan: so if there is one at
    # all, there is one with this step in the cycle that begins at the time.
    return lowest_plan(errand, {i: time}, {i: time + CYCLE - 1})


def latest_by(errand, i, time):
    """Return the latest plan in which step i is not after a time, or None."""
    return mirrored_plan(earliest_from(mirrored(errand), i, -time))


def windows(errand, times):
    """Return the earliest and the latest time of each step in the plans with these times, or None."""
    first = find_plan(errand, times)
    if first is None:
        return None
    last = find_last_plan(errand, times)
    return list(zip(first, last))

"""Needless waits: waits that hold in all plans without being asked for."""

from slotgaps.cycles import first_plans
from slotgaps.errands import wait_holds


def without(errand, drops):
    """Return the errand without the waits with these indices."""
    patterns, waits = errand
    return (patterns, tuple([wait for w, wait in enumerate(waits) if w not in drops]))


def find_breach(errand, w):
    """Return a plan of the errand without a wait for which the wait does not hold, or None."""
    wait = errand[1][w]
    rest = without(errand, (w,))
    # The earliest plan with a time of one step has the other step as early as can be:
    # so if a plan has both steps too near or too far apart, one of these has, too.
    for step in wait[:2]:
        for plan in first_plans(rest, step):
            if not wait_holds(wait, plan):
                return plan
    return None


def trimmed(errand):
    """Return the errand without the needless waits, which are taken away from the last one on."""
    left = errand
    for w in reversed(range(len(errand[1]))):
        if find_breach(left, w) is None:
            left = without(left, (w,))
    return left

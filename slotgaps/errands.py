"""Errands: steps with patterns, and waits between them."""

from slotgaps.patterns import is_pattern, smallest
from slotgaps.values import is_index, is_integer, is_tuple

MOST_STEPS = 6
MOST_WAITS = 8
MOST_TIME = 120


def is_errand(value):
    """Return whether a value of any kind is an errand."""
    if not is_tuple(value, 2, 2):
        return False
    patterns, waits = value
    if not is_tuple(patterns, 1, MOST_STEPS) or not is_tuple(waits, 0, MOST_WAITS):
        return False
    steps = len(patterns)
    return all([is_pattern(p) for p in patterns]) and all([is_wait(w, steps) for w in waits])


def is_wait(value, steps):
    """Return whether a value of any kind is a wait of an errand with so many steps."""
    if not is_tuple(value, 4, 4):
        return False
    i, j, low, high = value
    return is_index(i, steps) and is_index(j, steps) and i != j and are_limits(low, high)


def are_limits(low, high):
    """Return whether two values of any kind may be the limits of a wait."""
    if not is_limit(low) or not is_limit(high):
        return False
    if low is None or high is None:
        return low is not None or high is not None
    return low <= high


def is_limit(value):
    """Return whether a value of any kind is None or may be a limit of a wait."""
    return value is None or (is_integer(value) and -MOST_TIME <= value <= MOST_TIME)


def wait_holds(wait, times):
    """Return whether a wait holds for the times of the steps."""
    i, j, low, high = wait
    gap = times[j] - times[i]
    return (low is None or gap >= low) and (high is None or gap <= high)


def mirrored(errand):
    """Return the errand in which time runs backwards."""
    patterns, waits = errand
    return (tuple([mirrored_pattern(p) for p in patterns]), tuple([mirrored_wait(w) for w in waits]))


def mirrored_pattern(pattern):
    """Return the smallest pattern of the times -t for the contained times t."""
    period, times = pattern
    return smallest((period, tuple(sorted([(-t) % period for t in times]))))


def mirrored_wait(wait):
    """Return the wait that holds for the times -t where the given one holds for the times t."""
    i, j, low, high = wait
    return (i, j, negated(high), negated(low))


def negated(limit):
    """Return a limit with the other sign, None for None."""
    return None if limit is None else -limit

"""Patterns: times that come again."""

from math import lcm
from slotgaps.values import is_integer, is_tuple

CYCLE = 60


def is_pattern(value):
    """Return whether a value of any kind is a pattern."""
    if not is_tuple(value, 2, 2):
        return False
    period, times = value
    return is_period(period) and are_pattern_times(times, period)


def is_period(value):
    """Return whether a value of any kind is a positive divisor of 60."""
    return is_integer(value) and value > 0 and CYCLE % value == 0


def are_pattern_times(value, period):
    """Return whether a value of any kind may be the times of a pattern with this period."""
    if not isinstance(value, tuple):
        return False
    least = 0
    for time in value:
        if not is_integer(time) or not least <= time < period:
            return False
        least = time + 1
    return True


def contains(pattern, time):
    """Return whether a pattern contains a time."""
    period, times = pattern
    return time % period in times


def smallest(pattern):
    """Return the pattern with the smallest period that contains the same times."""
    period, times = pattern
    # If two periods fit, their greatest common divisor fits, too: so the
    # smallest one divides the given one.
    for part in range(1, period):
        if period % part == 0 and comes_again(pattern, part):
            return (part, tuple([t for t in times if t < part]))
    return (period, times)


def comes_again(pattern, part):
    """Return whether each contained time is contained again after a part of the period."""
    return all([contains(pattern, t + part) for t in pattern[1]])


def union(pattern, other):
    """Return the smallest pattern of the times that at least one of both contains."""
    period = lcm(pattern[0], other[0])
    times = [t for t in range(period) if contains(pattern, t) or contains(other, t)]
    return smallest((period, tuple(times)))


def intersection(pattern, other):
    """Return the smallest pattern of the times that both contain."""
    period = lcm(pattern[0], other[0])
    times = [t for t in range(period) if contains(pattern, t) and contains(other, t)]
    return smallest((period, tuple(times)))


def shifted(pattern, by):
    """Return the smallest pattern of the times t + by for the contained times t."""
    period, times = pattern
    return smallest((period, tuple(sorted([(t + by) % period for t in times]))))


def next_time(pattern, time):
    """Return the first contained time that is not before a time, or None."""
    period, times = pattern
    if not times:
        return None
    place = time % period
    later = [t for t in times if t >= place] + [times[0] + period]
    return time - place + later[0]


def last_time(pattern, time):
    """Return the last contained time that is not after a time, or None."""
    period, times = pattern
    if not times:
        return None
    place = time % period
    earlier = [times[-1] - period] + [t for t in times if t <= place]
    return time - place + earlier[-1]

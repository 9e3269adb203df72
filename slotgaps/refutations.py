"""Refutations: lines that show why no plan has some given times."""

from slotgaps.climbs import climb
from slotgaps.errands import MOST_TIME
from slotgaps.patterns import next_time
from slotgaps.values import is_index, is_integer, is_tuple


def is_refutation(errand, times, value):
    """Return whether a value of any kind is a refutation of the given times."""
    if not isinstance(value, list) or not value:
        return False
    for at in range(len(value)):
        if not is_line(errand, value[at]) or not follows(errand, times, value, at):
            return False
    step, time, _ = value[-1]
    return step in times and time > times[step]


def is_line(errand, value):
    """Return whether a value of any kind is a step, a time and something for the reason."""
    if not is_tuple(value, 3, 3):
        return False
    step, time, _ = value
    return is_index(step, len(errand[0])) and is_integer(time)


def follows(errand, times, lines, at):
    """Return whether the reason of a line is right; the earlier lines are right."""
    step, time, reason = lines[at]
    if reason == ("given",):
        return step in times and time <= times[step]
    if not is_tuple(reason, 2, 3) or not is_index(reason[-1], at):
        return False
    earlier, before, _ = lines[reason[-1]]
    gap = time - before
    if len(reason) == 3:
        return is_wait_gap(errand[1], reason, (earlier, step), gap)
    if reason[0] == "span":
        return (earlier == 0) != (step == 0) and gap <= -MOST_TIME
    return reason[0] == "open" and earlier == step and is_closed_until(errand[0][step], before, time)


def is_wait_gap(waits, reason, steps, gap):
    """Return whether a wait puts the second step at least the gap after the first one."""
    word, w, _ = reason
    if not is_index(w, len(waits)):
        return False
    i, j, low, high = waits[w]
    if word == "low":
        return steps == (i, j) and low is not None and gap <= low
    return word == "high" and steps == (j, i) and high is not None and gap <= -high


def is_closed_until(pattern, before, time):
    """Return whether a step that is not before one time is not before the other one, either."""
    opened = next_time(pattern, before)
    return opened is None or time <= opened


def find_refutation(errand, times):
    """Return a refutation of the given times, or None if a plan has them."""
    climber = climb(errand, times, times)
    return climber.lines if climber.is_over else None

"""Plans by search, in the words of points 5 to 8, and small errands to search."""

import random

from tests.samples import contained

FAR = 120


def holds(wait, times):
    i, j, low, high = wait
    gap = times[j] - times[i]
    return not (low is not None and gap < low) and not (high is not None and gap > high)


def plans_from(errand, start, given=None):
    """All plans with this start, and with the given times of steps."""
    patterns, waits = errand
    given = given or {}
    found = [(time,) for time in contained(patterns[0], start, start + 1) if given.get(0, time) == time]
    for step in range(1, len(patterns)):
        if not found:
            break
        times = contained(patterns[step], start - FAR, start + FAR + 1)
        times = [time for time in times if given.get(step, time) == time]
        known = [w for w in waits if max(w[0], w[1]) == step]
        found = [plan + (time,) for plan in found for time in times
                 if all(holds(w, plan + (time,)) for w in known)]
    return found


def plans_between(errand, first, last):
    """All plans with a start from the first to the last one."""
    return [plan for start in range(first, last + 1) for plan in plans_from(errand, start)]


def plans_with(errand, times):
    """All plans that have some given times."""
    least = min(times.values())
    starts = [times[0]] if 0 in times else range(least - FAR, least + FAR + 1)
    return [plan for start in starts for plan in plans_from(errand, start, times)]


def earliest_of(plans):
    """The plan of some plans in which no step is later than in any other one, None for none."""
    lowest = tuple(min(column) for column in zip(*plans))
    return lowest if lowest in plans else None


def latest_of(plans):
    """The plan of some plans in which no step is earlier than in any other one, None for none."""
    highest = tuple(max(column) for column in zip(*plans))
    return highest if highest in plans else None


def moved(plan, by):
    return tuple(time + by for time in plan)


def some_pattern(chance):
    period = chance.choice((10, 12, 15, 20, 30, 60))
    many = chance.choice((1, 1, 1, 2, 2, 3))
    if chance.random() < 0.03:
        many = 0
    return (period, tuple(sorted(chance.sample(range(period), many))))


def some_wait(chance, steps):
    i, j = chance.sample(range(steps), 2)
    wide = chance.choice((6, 15, 40, 120))
    low, high = sorted((chance.randint(-wide, wide), chance.randint(-wide, wide)))
    kept = chance.choice(((low, high), (low, high), (low, None), (None, high)))
    return (i, j) + kept


def some_errand(chance, steps):
    patterns = tuple(some_pattern(chance) for _ in range(steps))
    many = chance.choice((0, 1, 2, 2, 3, 4)) if steps > 1 else 0
    return (patterns, tuple(some_wait(chance, steps) for _ in range(many)))


def small_errands(many, steps, seed=1):
    """So many errands with so many steps, the same ones at each call."""
    chance = random.Random(f"{seed} {steps}")
    return [some_errand(chance, steps) for _ in range(many)]

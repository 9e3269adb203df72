"""Plans by search, in the words of points 5 to 8, and small errands to search."""

import itertools
import random

from tests.samples import DIVISORS, contained

FAR = 120


def holds(wait, times):
    i, j, low, high = wait
    gap = times[j] - times[i]
    return not (low is not None and gap < low) and not (high is not None and gap > high)


def is_plan_by_words(errand, times):
    patterns, waits = errand
    return (len(times) == len(patterns) and all(any(t % p[0] == u for u in p[1]) for p, t in zip(patterns, times))
            and all(holds(w, times) for w in waits) and all(abs(t - times[0]) <= FAR for t in times))


def plans_from(errand, start, given=None):
    """All plans with this start, and with the given times of steps."""
    patterns, waits = errand
    given = given or {}
    found = [(time,) for time in contained(patterns[0], start, start + 1) if given.get(0, time) == time]
    for step in range(1, len(patterns)):
        if not found:
            break
        times = contained(patterns[step], start - FAR, start + FAR + 1)
        times = [time for time in times if given.get(step, time) == time]
        known = [w for w in waits if max(w[0], w[1]) == step]
        found = [plan + (time,) for plan in found for time in times
                 if all(holds(w, plan + (time,)) for w in known)]
    return found


def plans_between(errand, first, last):
    """All plans with a start from the first to the last one."""
    return [plan for start in range(first, last + 1) for plan in plans_from(errand, start)]


def plans_with(errand, times):
    """All plans that have some given times."""
    least = min(times.values())
    starts = [times[0]] if 0 in times else range(least - FAR, least + FAR + 1)
    return [plan for start in starts for plan in plans_from(errand, start, times)]


def earliest_of(plans):
    """The plan of some plans in which no step is later than in any other one, None for none."""
    lowest = tuple(min(column) for column in zip(*plans))
    return lowest if lowest in plans else None


def latest_of(plans):
    """The plan of some plans in which no step is earlier than in any other one, None for none."""
    highest = tuple(max(column) for column in zip(*plans))
    return highest if highest in plans else None


def moved(plan, by):
    return tuple(time + by for time in plan)


def some_pattern(chance):
    period = chance.choice((10, 12, 15, 20, 30, 60))
    many = chance.choice((1, 1, 1, 2, 2, 3))
    if chance.random() < 0.03:
        many = 0
    return (period, tuple(sorted(chance.sample(range(period), many))))


def some_wait(chance, steps):
    i, j = chance.sample(range(steps), 2)
    wide = chance.choice((6, 15, 40, 120))
    low, high = sorted((chance.randint(-wide, wide), chance.randint(-wide, wide)))
    kept = chance.choice(((low, high), (low, high), (low, None), (None, high)))
    return (i, j) + kept


def some_errand(chance, steps):
    patterns = tuple(some_pattern(chance) for _ in range(steps))
    many = chance.choice((0, 1, 2, 2, 3, 4)) if steps > 1 else 0
    return (patterns, tuple(some_wait(chance, steps) for _ in range(many)))


def small_errands(many, steps, seed=1):
    """So many errands with so many steps, the same ones at each call."""
    chance = random.Random(f"{seed} {steps}")
    return [some_errand(chance, steps) for _ in range(many)]


def thin_pattern(chance, steps):
    """A pattern with so few times that all plans of so many steps can be searched."""
    period = 60 if steps > 4 else chance.choice((20, 30, 60))
    many = chance.choice((1, 1, 1, 1, 2, 2))
    return (period, tuple(sorted(chance.sample(range(period), many))))


def some_patterns(chance, steps):
    """A pattern for each step; seldom, one of them has no time."""
    chosen = [some_pattern(chance) if step == 0 or steps < 4 else thin_pattern(chance, steps) for step in range(steps)]
    if chance.random() < 0.05:
        chosen[chance.randrange(steps)] = (chance.choice((1, 12, 60)), ())
    return tuple(chosen)


def near_wait(chance, times):
    """A wait that holds for the times of the steps, mostly."""
    i, j = chance.sample(range(len(times)), 2)
    slack = chance.choice((0, 5, 15, 40))
    gap = times[j] - times[i] + chance.choice((0,) * 15 + (-9, -1, 1, 9))
    low, high = (max(-FAR, min(FAR, gap + by)) for by in (-chance.randint(0, slack), chance.randint(0, slack)))
    return (i, j) + chance.choice(((low, high), (low, None), (None, high)))


def knotted_errand(chance, steps):
    """An errand with up to eight waits, the same ones twice and cycles among them."""
    patterns = some_patterns(chance, steps)
    times = [chance.choice(contained(pattern, -40, 61) or [0]) for pattern in patterns]
    waits = []
    for _ in range(chance.choice((0, 1, 2, 3, 4, 5, 6, 7, 8, 8)) if steps > 1 else 0):
        again = waits and chance.random() < 0.08
        waits.append(chance.choice(waits) if again else near_wait(chance, times))
    return (patterns, tuple(waits))


def knotted_errands(many, steps, seed=1):
    """So many errands with so many steps, the same ones at each call."""
    chance = random.Random(f"knots {seed} {steps}")
    return [knotted_errand(chance, steps) for _ in range(many)]


def dense_errands(many, seed=1):
    """So many errands of two steps with many open times and up to eight waits, the same ones at each call."""
    chance = random.Random(f"dense {seed}")
    errands = []
    for _ in range(many):
        periods = (chance.choice(DIVISORS), chance.choice(DIVISORS))
        patterns = tuple((p, tuple(sorted(chance.sample(range(p), chance.randint((p + 1) // 2, p))))) for p in periods)
        times = [chance.randint(-40, 60), chance.randint(-40, 60)]
        errands.append((patterns, tuple(near_wait(chance, times) for _ in range(chance.randint(1, 8)))))
    return errands


def plans_of_an_hour(errand):
    """All plans with a start from 0 to 59: the others are these, moved by whole hours."""
    return plans_between(errand, 0, 59)


def sets_of_waits(errand):
    """All sets of waits as tuples, the smaller ones first, those of one size in ascending order."""
    many = len(errand[1])
    return [chosen for size in range(many + 1) for chosen in itertools.combinations(range(many), size)]


def held_together(errand, start=None):
    """The sets of waits that hold together when the errand is done in some way, from a start or any."""
    bare = (errand[0], ())
    plans = plans_of_an_hour(bare) if start is None else plans_from(bare, start)
    return {frozenset(w for w, wait in enumerate(errand[1]) if holds(wait, plan)) for plan in plans}

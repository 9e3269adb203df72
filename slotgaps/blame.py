"""Blame: which waits forbid a start, and which ones have to go."""

from itertools import combinations
from slotgaps.ends import earliest
from slotgaps.errands import wait_holds
from slotgaps.needless import without
from slotgaps.patterns import CYCLE, contains
from slotgaps.refutations import find_refutation


def blame(errand, start):
    """Return the smallest set of waits that leaves no plan with a start, or None."""
    return first_meeting(len(errand[1]), lambda chosen: find_broken(errand, start, chosen))


def find_broken(errand, start, chosen):
    """Return the waits that a plan breaks which keeps the chosen ones, or None if there is none."""
    waits = errand[1]
    plan = earliest(without(errand, others(waits, chosen)), start)
    if plan is None:
        return None
    return [w for w, wait in enumerate(waits) if not wait_holds(wait, plan)]


def find_drops(errand):
    """Return the smallest set of waits without which all open times are good starts, or None."""
    return first_meeting(len(errand[1]), lambda chosen: find_conflict(errand, chosen))


def find_conflict(errand, drops):
    """Return waits that forbid an open start and are none of the drops, or None."""
    patterns, waits = errand
    rest = without(errand, drops)
    kept = others(waits, drops)
    for start in range(CYCLE):
        if contains(patterns[0], start):
            lines = find_refutation(rest, {0: start})
            if lines is not None:
                return [kept[w] for w in used_waits(lines)]
    return None


def used_waits(lines):
    """Return the waits on which the last line of a refutation rests, each one once."""
    used = []
    reason = lines[-1][2]
    while reason != ("given",):
        if len(reason) == 3 and reason[1] not in used:
            used.append(reason[1])
        reason = lines[reason[-1]][2]
    return used


def others(waits, chosen):
    """Return the indices of the waits that are not chosen."""
    return tuple([w for w in range(len(waits)) if w not in chosen])


def first_meeting(many, find_missed):
    """Return the smallest, then first, set of indices that has one of each set in question.

    find_missed returns a set in question of which the given one has none, or None.
    """
    known = []
    for size in range(many + 1):
        for chosen in combinations(range(many), size):
            # Most sets miss one that is known already: only the others take long.
            if all([meets(chosen, indices) for indices in known]):
                missed = find_missed(chosen)
                if missed is None:
                    return chosen
                known.append(missed)
    return None


def meets(chosen, indices):
    """Return whether one of the chosen indices is among some others."""
    return any([w in indices for w in chosen])

"""Comparing errands: whether they have the same plans."""

from slotgaps.cycles import first_plans, used_pattern
from slotgaps.plans import is_plan


def find_difference(errand, other):
    """Return a plan of exactly one of both errands, or None if they have the same plans."""
    plan = find_stray(errand, other)
    return find_stray(other, errand) if plan is None else plan


def find_stray(errand, other):
    """Return a plan of an errand that is not a plan of the other one, or None."""
    # In a plan that is none of the other errand, a step has a time that is not open
    # there, or comes too early after another step: then the earliest plan with the
    # same time of the one or the other step is none there, either.
    for step in range(len(errand[0])):
        for plan in first_plans(errand, step):
            if not is_plan(other, plan):
                return plan
    return None


def are_equivalent(errand, other):
    """Return whether both errands have the same plans."""
    return find_difference(errand, other) is None


def used_times(errand, step):
    """Return the smallest pattern of the times that a step has in plans."""
    return used_pattern(errand, step)

"""Climbs: how open times and waits push the steps of an errand up, line by line."""

from slotgaps.errands import MOST_TIME
from slotgaps.patterns import next_time


class Climb:
    """Lines (step, time, reason) that say which times each step cannot be before.

    The floors are the first times that steps cannot be before, the limits the
    times that steps must not be after; both are dicts with at least one step.
    """

    def __init__(self, errand, floors, limits):
        patterns, waits = errand
        self.patterns = patterns
        self.pushes = span_pushes(len(patterns)) + wait_pushes(waits)
        self.floors = dict(floors)
        self.limits = dict(limits)
        # The spans alone lead from here to a time over the limit of any step.
        self.beyond = max(limits.values()) + 2 * MOST_TIME + 1
        self.times = [None] * len(patterns)
        self.newest = [None] * len(patterns)
        self.lines = []
        self.is_over = False

    def run(self):
        """Push until no step rises any more, or the last line is over a limit."""
        for step in sorted(self.floors):
            if not self.is_over:
                self.lift(step, self.floors[step], ("given",))
        # Each round raises a step, and the spans do not let the steps leave one
        # another behind: so a step with a limit gets over it, or all come to rest.
        rising = True
        while rising:
            rising = self.push_all()

    def push_all(self):
        """Push each step by each other one, and return whether this has to go on."""
        many = len(self.lines)
        for i, j, gap, why in self.pushes:
            if self.is_over:
                return False
            if self.newest[i] is not None:
                self.push(i, j, gap, why)
        return len(self.lines) > many

    def push(self, i, j, gap, why):
        """Raise step j, if it is needed, to a gap above the time of step i."""
        time = self.times[i] + gap
        if self.times[j] is None or self.times[j] < time:
            self.lift(j, time, why + (self.newest[i],))

    def lift(self, step, time, reason):
        """Raise a step to a time, and on to its next open time."""
        self.note(step, time, reason)
        opened = next_time(self.patterns[step], time)
        if opened is None:
            opened = self.beyond
        if opened > time:
            self.note(step, opened, ("open", self.newest[step]))

    def note(self, step, time, reason):
        """Add a line, which is the highest one of its step."""
        self.times[step] = time
        self.newest[step] = len(self.lines)
        self.lines.append((step, time, reason))
        if step in self.limits and time > self.limits[step]:
            self.is_over = True


def span_pushes(steps):
    """Return the pushes (i, j, gap, reason) that keep each step near step 0."""
    others = range(1, steps)
    # Down to step 0 first: so from any one step all get a time in the first round.
    return [(i, 0, -MOST_TIME, ("span",)) for i in others] + [(0, j, -MOST_TIME, ("span",)) for j in others]


def wait_pushes(waits):
    """Return the pushes (i, j, gap, reason): step j is not before step i and the gap."""
    pushes = []
    for w, (i, j, low, high) in enumerate(waits):
        if low is not None:
            pushes.append((i, j, low, ("low", w)))
        if high is not None:
            pushes.append((j, i, -high, ("high", w)))
    return pushes


def climb(errand, floors, limits):
    """Return a climb that has come to its end."""
    climber = Climb(errand, floors, limits)
    climber.run()
    return climber


def lowest_plan(errand, floors, limits):
    """Return the earliest plan above the floors, or None if it would exceed a limit."""
    climber = climb(errand, floors, limits)
    return None if climber.is_over else tuple(climber.times)

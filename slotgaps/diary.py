"""A diary of one errand that is done several times at once."""

from slotgaps.ends import earliest, find_last_plan, windows
from slotgaps.errors import DiaryFull, InvalidName, InvalidStep, NameInUse, NoPlan
from slotgaps.plans import find_plan
from slotgaps.values import is_index, is_integer

MOST_ENTRIES = 8
MOST_LETTERS = 8


class Diary:
    """Entries, each of which is a name with the times of the done steps.

    The times of an entry are a dict that stays as it is: a change puts a new one
    in its place, so that the changes can hold the old ones.
    """

    def __init__(self, errand):
        # An errand consists of tuples: nobody can change it, so it needs no copy.
        self.errand = errand
        self.entries = {}
        self.changes = []

    def __eq__(self, other):
        if not isinstance(other, Diary):
            return False
        return self.errand == other.errand and self.entries == other.entries

    def begin(self, name, start):
        """Add an entry whose step 0 is done at a time."""
        if not is_name(name):
            raise InvalidName(name)
        if name in self.entries:
            raise NameInUse(name)
        if len(self.entries) >= MOST_ENTRIES:
            raise DiaryFull(MOST_ENTRIES)
        if not is_integer(start) or earliest(self.errand, start) is None:
            raise NoPlan("no plan has this start")
        self.change("begin", name, {0: start})

    def do(self, name, step, time):
        """Record that a step of an entry was done at a time."""
        done = self.done(name)
        if not is_index(step, len(self.errand[0])) or step in done:
            raise InvalidStep(step)
        if not is_integer(time):
            raise NoPlan("the time of a step is an integer")
        done[step] = time
        if find_plan(self.errand, done) is None:
            raise NoPlan("no plan has the times of the done steps and this time")
        self.change("do", name, done)

    def cancel(self, name):
        """Remove an entry."""
        self.check_entry(name)
        self.change("cancel", name, None)

    def undo(self):
        """Revert the last change that is not reverted yet, and return its word, or None."""
        if not self.changes:
            return None
        word, name, before = self.changes.pop()
        self.put(name, before)
        return word

    def names(self):
        """Return the names of the entries in ascending order."""
        return sorted(self.entries)

    def done(self, name):
        """Return the done steps of an entry with their times."""
        self.check_entry(name)
        return dict(self.entries[name])

    def plan(self, name):
        """Return the earliest plan with the times of the done steps of an entry."""
        return find_plan(self.errand, self.done(name))

    def windows(self, name):
        """Return the earliest and the latest time of each step of an entry."""
        return windows(self.errand, self.done(name))

    def due(self, time):
        """Return the names of the entries with a step that is to be done before a time."""
        return [name for name in self.names() if is_due(self.errand, self.done(name), time)]

    def check_entry(self, name):
        """Raise an error if a value of any kind is not the name of an entry."""
        if not is_name(name) or name not in self.entries:
            raise InvalidName(name)

    def change(self, word, name, done):
        """Give an entry new done steps, None for no entry, and note what it was before."""
        self.changes.append((word, name, self.entries.get(name)))
        self.put(name, done)

    def put(self, name, done):
        """Set the done steps of an entry, None for no entry."""
        if done is None:
            del self.entries[name]
        else:
            self.entries[name] = done


def is_name(value):
    """Return whether a value of any kind is a name."""
    if not isinstance(value, str) or not 1 <= len(value) <= MOST_LETTERS:
        return False
    return all(["a" <= letter <= "z" for letter in value])


def is_due(errand, done, time):
    """Return whether a step that is not done has a latest time before a time."""
    last = find_last_plan(errand, done)
    return any([last[step] < time for step in range(len(last)) if step not in done])

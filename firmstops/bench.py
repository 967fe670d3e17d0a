"""The bench: a work among stops that is changed step by step."""

from firmstops.changes import apply_change, apply_changes, change_kept
from firmstops.errors import NothingDone
from firmstops.stops import check_stops, is_stop
from firmstops.wishes import holds_all


class Bench:
    """A work and its stops at present, and all changes that have led there."""

    def __init__(self, work, stops=()):
        self.work = work
        self.stops = check_stops(work, stops)
        self.done = []
        self.passed = []

    @property
    def made(self):
        """The changes that hold, the first one first."""
        return tuple(self.done)

    def __len__(self):
        return len(self.done)

    def __contains__(self, stop):
        return isinstance(stop, tuple) and is_stop(self.work, stop) and stop in self.stops

    def make(self, change):
        """Apply a change."""
        told = apply_change(self.work, self.stops, change)
        self.passed.append((self.work, self.stops))
        self.done.append(change_kept(change))
        self.work, self.stops = told

    def undo(self):
        """Take the last change that holds back, and return it."""
        if len(self.done) == 0:
            raise NothingDone()
        self.work, self.stops = self.passed.pop()
        return self.done.pop()

    def holds(self, *wishes):
        """Return whether all wishes hold now."""
        return holds_all(self.work, self.stops, wishes)

    def trial(self, *changes, wishes=(("firm",),)):
        """Return whether all wishes would hold behind some changes."""
        told = apply_changes(self.work, self.stops, changes)
        return holds_all(told[0], told[1], wishes)

    def stages(self):
        """Yield the couples (work, stops) from the first to the present one."""
        for stage in self.passed + [(self.work, self.stops)]:
            yield stage

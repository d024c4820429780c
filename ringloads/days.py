"""Days: a ring and its ways, changed step by step, and undone."""

from ringloads.best import best_ways
from ringloads.changes import changed
from ringloads.errors import NoDay
from ringloads.mends import mend_of
from ringloads.sendings import top_by


class Days:
    """The days of a ring of at most seven asks, or TooMany; steps are tuples (ring, ways), the last one is now."""

    def __init__(self, ring):
        self.steps = [((list(ring[0]), list(ring[1])), best_ways(ring)[1])]

    def change(self, thing):
        """The names of the asks that are turned by a change; NoChange, TooMany, of anything."""
        here = self.steps[-1]
        mend = mend_of(here[0], here[1], thing)
        made = changed(here[0], thing)
        self.steps.append((made, mend[1]))
        return [made[1][k][0] for k in mend[2]]

    def undo(self):
        """The last change is undone, or NoDay where there is none."""
        if self.count() == 0:
            raise NoDay("there is no change to undo")
        self.steps.pop()

    def ring(self):
        """The ring as it is now."""
        here = self.steps[-1][0]
        return (list(here[0]), list(here[1]))

    def ways(self):
        """The ways as they are now."""
        return list(self.steps[-1][1])

    def top(self):
        """The top of the ways, as a fraction."""
        return top_by(self.steps[-1][0], self.steps[-1][1])

    def count(self):
        """How many changes aren't undone."""
        return len(self.steps) - 1

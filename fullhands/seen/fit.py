"""The runs that fit what has been told of a table that is seen from outside."""

from fullhands.seen.steps import leading_unseen, reached_unseen, traced_unseen


class Fit:
    """All runs that fit some events and facts, by what they lead to in each moment."""

    def __init__(self, steps, events, facts):
        self._steps = steps
        self._events = tuple(events)
        # For each moment the places at its beginning, each with places at the end of the moment before it.
        self._starts = [{steps.nothing(): None}]
        # For each moment all places in it.
        self._reached = []
        ends = []
        for moment in range(len(self._events) + 1):
            self._reached.append(reached_unseen(steps, self._starts[moment]))
            claims = [claim for told, claim in facts if told == moment]
            ends.append([places for places in self._reached[moment] if steps.fits(places, claims)])
            if moment < len(self._events):
                self._starts.append(begun(steps, ends[moment], self._events[moment]))
        self._worlds = self._lasting(ends)

    def worlds(self, moment):
        """The places at the end of the moment in all these runs, in ascending order."""
        return sorted(self._worlds[moment])

    def is_possible(self):
        """True if there is such a run."""
        return len(self._worlds[-1]) > 0

    def run_through(self, moment, places):
        """One of these runs that has these places, which are one of the worlds, at the end of the moment."""
        return self._run_until(moment, places) + self._run_from(moment, places)

    def _lasting(self, ends):
        """For each moment those of its ends that later events and facts fit, too."""
        worlds = [ends[-1]]
        for moment in range(len(self._events) - 1, -1, -1):
            leading = leading_unseen(self._steps, self._reached[moment + 1], worlds[-1])
            event = self._events[moment]
            worlds.append([places for places in ends[moment] if self._steps.seen(places, event) in leading])
        return worlds[::-1]

    def _run_until(self, moment, places):
        run = []
        present = places
        # In moment 0 nothing is held that could be passed.
        for at in range(moment, 0, -1):
            start, moves = traced_unseen(self._reached[at], present)
            run = [self._steps.move_of(self._events[at - 1])] + moves + run
            present = self._starts[at][start]
        return run

    def _run_from(self, moment, places):
        run = []
        present = places
        for at in range(moment, len(self._events)):
            run.append(self._steps.move_of(self._events[at]))
            found = reached_unseen(self._steps, [self._steps.seen(present, self._events[at])])
            present = [later for later in self._worlds[at + 1] if later in found][0]
            _, moves = traced_unseen(found, present)
            run.extend(moves)
        return run


def begun(steps, ends, event):
    """The places to which the event leads from these ends, each with one of the ends."""
    found = {}
    for places in ends:
        later = steps.seen(places, event)
        if later is not None:
            found[later] = places
    return found

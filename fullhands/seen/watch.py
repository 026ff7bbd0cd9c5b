"""Watches: what can be said of a table of which only enters and dishes put down are seen."""

from fullhands.errors import Impossible, NoSuch, TooGreat, WrongGround
from fullhands.ground.check import need_kind
from fullhands.moves.standing import Standing
from fullhands.seen.claims import is_claimed, need_claim
from fullhands.seen.fit import Fit
from fullhands.seen.steps import Steps

MOST_PEOPLE = 5
MOST_EVENTS = 12
MOST_FACTS = 12
MOST_DISHES = 4


class Watch:
    """The events and facts that have been told of a table without quick ties."""

    def __init__(self, table):
        if table.quick:
            raise WrongGround("no quick")
        if table.people > MOST_PEOPLE:
            raise TooGreat("people")
        self._table = table
        self._steps = Steps(table)
        self._events = []
        self._facts = []
        self._fit = Fit(self._steps, [], [])

    @property
    def now(self):
        return len(self._events)

    def told(self):
        return (tuple(self._events), tuple(self._facts))

    def tell(self, event):
        fit = self._fit_after(event)
        if not fit.is_possible():
            raise Impossible()
        self._events.append(tuple(event))
        self._fit = fit

    def fact(self, moment, claim):
        self._need_moment(moment)
        need_claim(self._table, claim)
        if len(self._facts) == MOST_FACTS:
            raise TooGreat("facts")
        told = (moment, tuple(claim))
        fit = Fit(self._steps, self._events, self._facts + [told])
        if not fit.is_possible():
            raise Impossible()
        self._facts.append(told)
        self._fit = fit

    def worlds(self, moment):
        self._need_moment(moment)
        return self._fit.worlds(moment)

    def witness(self, moment, places):
        self._need_moment(moment)
        world = tuple([tuple(row) for row in places])
        if world not in self._fit.worlds(moment):
            raise NoSuch("world")
        return self._fit.run_through(moment, world)

    def ask(self, moment, claim):
        self._need_moment(moment)
        need_claim(self._table, claim)
        worlds = self._fit.worlds(moment)
        inside = [places for places in worlds if is_claimed(Standing(self._table, places), claim)]
        outside = [places for places in worlds if places not in inside]
        if not outside:
            return ("yes",)
        if not inside:
            return ("no",)
        return ("open", inside[0], outside[0])

    def could(self, event):
        return self._fit_after(event).is_possible()

    def _need_moment(self, moment):
        if not 0 <= moment <= len(self._events):
            raise NoSuch("moment")

    def _fit_after(self, event):
        """The runs that fit when this event is told, too. Raises NoSuch, TooGreat."""
        need_kind(self._table, event[1])
        if len(self._events) == MOST_EVENTS:
            raise TooGreat("events")
        if event[0] == "enter" and dishes_left(self._events) == MOST_DISHES:
            raise TooGreat("dishes")
        return Fit(self._steps, self._events + [tuple(event)], self._facts)


def dishes_left(events):
    """How many dishes are on the way after these events."""
    return sum([1 if event[0] == "enter" else -1 for event in events])

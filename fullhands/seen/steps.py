"""Steps between the standings of a table that is seen from outside."""

from fullhands.errors import CannotMove
from fullhands.moves.standing import Standing
from fullhands.moves.step import after, possible
from fullhands.seen.claims import is_claimed


class Steps:
    """What seen and unseen moves of a table lead to, by the places of standings; each is worked out once."""

    def __init__(self, table):
        self._table = table
        self._unseen = {}
        self._seen = {}

    def nothing(self):
        """The places of the empty standing."""
        return Standing.empty(self._table).places

    def unseen(self, places):
        """The unseen passes that are possible, as pairs of the pass and the places that it leads to."""
        if places not in self._unseen:
            standing = Standing(self._table, places)
            moves = [move for move in possible(standing, enters=False) if not self._is_seen(move)]
            self._unseen[places] = [(move, after(standing, move).places) for move in moves]
        return self._unseen[places]

    def seen(self, places, event):
        """The places that the move of the event leads to, or None if it is not possible."""
        if (places, event) not in self._seen:
            self._seen[(places, event)] = self._places_after(places, event)
        return self._seen[(places, event)]

    def move_of(self, event):
        """The move that is seen as this event."""
        if event[0] == "enter":
            return event
        return ("pass", event[1], self._last_passer(event[1]))

    def fits(self, places, claims):
        """True if all these claims hold for the standing."""
        standing = Standing(self._table, places)
        return all([is_claimed(standing, claim) for claim in claims])

    def _last_passer(self, kind):
        """The person from whom a dish of this kind is passed to the end of its way."""
        return self._table.kinds[kind][0][-2]

    def _is_seen(self, move):
        return move[2] == self._last_passer(move[1])

    def _places_after(self, places, event):
        try:
            return after(Standing(self._table, places), self.move_of(event)).places
        except CannotMove:
            return None


def reached_unseen(steps, starts):
    """The places that unseen passes lead to from these starts.

    Each one has the places before it and the pass between the two, a start has None.
    """
    found = {places: None for places in starts}
    line = list(starts)
    while line:
        links = {later: (places, move) for places in line for move, later in steps.unseen(places)
                 if later not in found}
        found.update(links)
        line = list(links)
    return found


def leading_unseen(steps, reached, goals):
    """Those of the places reached from which unseen passes lead to one of these goals among them."""
    found = {places: True for places in goals}
    more = list(goals)
    while more:
        left = [places for places in reached if places not in found]
        more = [places for places in left if any([later in found for _, later in steps.unseen(places)])]
        found.update({places: True for places in more})
    return found


def traced_unseen(reached, places):
    """The start from which unseen passes lead to these places, and the passes in their order."""
    moves = []
    present = places
    while reached[present] is not None:
        present, move = reached[present]
        moves.append(move)
    return (present, moves[::-1])

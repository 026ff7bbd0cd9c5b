"""Playing a program on a table, move by move."""

from fullhands.errors import CannotMove, WrongGround
from fullhands.ground.check import MOST_BOUND
from fullhands.ground.table import Table
from fullhands.hosts.choice import need_kinds
from fullhands.hosts.position import frozen_row
from fullhands.hosts.program import need_host
from fullhands.hosts.sender import Sender
from fullhands.moves.knot import knot
from fullhands.moves.standing import Standing
from fullhands.moves.step import is_kind, is_person


class Play:
    """The hosts of a program, each at its present send, and the dishes on the way."""

    def __init__(self, table, program):
        need_kinds(table, program)
        if table.quick:
            raise WrongGround("no quick")
        # Mosts and shares play no part: there are never more dishes on the way than the greatest most.
        kinds = [(way, MOST_BOUND) for way, _ in table.kinds]
        self._table = Table(table.hands, table.ties, kinds)
        self._hosts = [Sender(self._table, frozen_row(host)) for host in program]
        self._made = 0

    def open_moves(self):
        standing = self._together()
        moves = []
        for host in range(len(self._hosts)):
            moves.extend([("enter", host, kind) for kind in range(len(self._table.kinds))])
        for host in range(len(self._hosts)):
            for kind, (way, _) in enumerate(self._table.kinds):
                moves.extend([("pass", host, kind, person) for person in way[:-1]])
        return [step for step in moves if self._refusal(standing, step) is None]

    def move(self, step):
        reason = self._refusal(self._together(), step)
        if reason is not None:
            raise CannotMove(0, reason)
        host = self._hosts[step[1]]
        if step[0] == "enter":
            host.let_in(step[2])
        else:
            host.hand_on(step[2], step[3])
        self._made += 1

    def position(self, host):
        need_host(self._hosts, host)
        return self._hosts[host].spot

    def entered(self, host):
        need_host(self._hosts, host)
        return self._hosts[host].sent()

    def held_by(self, person):
        return self._together().held(person)

    def play_knot(self):
        return knot(self._together())

    @property
    def finished(self):
        return all([host.spot == () for host in self._hosts])

    @property
    def moves_made(self):
        return self._made

    def _together(self):
        """The dishes of all hosts together."""
        places = [[0] * (len(way) - 1) for way, _ in self._table.kinds]
        for host in self._hosts:
            for kind, row in host.rows():
                places[kind] = [many + more for many, more in zip(places[kind], row)]
        return Standing(self._table, places)

    def _refusal(self, standing, step):
        """The reason for which the move cannot be made, or None if it can be made."""
        if not 0 <= step[1] < len(self._hosts) or not is_kind(self._table, step[2]):
            return "unknown"
        host = self._hosts[step[1]]
        if step[0] == "enter":
            return self._enter_refusal(standing, host, step[2])
        if not is_person(self._table, step[3]):
            return "unknown"
        if host.dishes_at(step[2], step[3]) == 0:
            return "none"
        if standing.free(self._table.wants(step[2], step[3])) == 0:
            return "hands"
        return None

    def _enter_refusal(self, standing, host, kind):
        if not host.has_left(kind):
            return "send"
        if host.is_at_window():
            return "window"
        if standing.free(self._table.kinds[kind][0][0]) == 0:
            return "hands"
        return None

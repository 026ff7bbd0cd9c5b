"""A host that executes its statements: its present send, and the dishes of this send."""

from fullhands.hosts.position import position_after, position_from, send_at


class Sender:
    """A host at the send with the position `spot`, or finished, where `spot` is the empty tuple."""

    def __init__(self, table, statements):
        self._table = table
        self._row = statements
        self._begin(position_from(statements, 0))

    def sent(self):
        """How many dishes of each flow of the present send have entered."""
        return tuple(self._sent)

    def rows(self):
        """The dishes on the way, as pairs of a kind and its row with an entry for each person but the end."""
        return [(flow[1], row) for flow, row in zip(self._flows, self._rows)]

    def has_left(self, kind):
        """True if dishes of this kind are still to enter."""
        return any([flow[1] == kind and sent < flow[0] for flow, sent in zip(self._flows, self._sent)])

    def is_at_window(self):
        return self._window is not None and self._on_way() == self._window

    def dishes_at(self, kind, person):
        """How many dishes of this kind the person holds for this host."""
        step = self._table.steps_to(kind, person)
        found = [row for other, row in self.rows() if other == kind]
        if not found or step is None or step == len(found[0]):
            return 0
        return found[0][step]

    def let_in(self, kind):
        """A dish of this kind enters."""
        at = self._flow_of(kind)
        self._sent[at] += 1
        self._rows[at][0] += 1

    def hand_on(self, kind, person):
        """The person passes a dish of this kind on; behind the last dish of a send the next statement begins."""
        row = self._rows[self._flow_of(kind)]
        step = self._table.steps_to(kind, person)
        row[step] -= 1
        if step + 1 < len(row):
            row[step + 1] += 1
        if self._on_way() == 0 and self._sent == [many for many, _ in self._flows]:
            self._begin(position_after(self._row, self.spot))

    def _begin(self, position):
        """Be at the send at this position, of which nothing has entered yet."""
        self.spot = position
        self._flows = ()
        self._window = None
        if position:
            _, self._flows, self._window = send_at(self._row, position)
        self._sent = [0] * len(self._flows)
        self._rows = [[0] * (len(self._table.kinds[kind][0]) - 1) for _, kind in self._flows]

    def _flow_of(self, kind):
        return [other for _, other in self._flows].index(kind)

    def _on_way(self):
        return sum([sum(row) for row in self._rows])

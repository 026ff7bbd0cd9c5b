"""The greatest flow through a small web of arcs."""


class Flow:
    """A flow along arcs between places with names of any kind. An arc cannot be given in both directions."""

    def __init__(self):
        # How much more may go from one place to the next one; what goes may also be taken back.
        self._spare = {}

    def add_arc(self, start, end, most):
        for place in (start, end):
            if place not in self._spare:
                self._spare[place] = {}
        self._spare[start][end] = most
        self._spare[end][start] = 0

    def along(self, start, end):
        """How much goes along this arc, 0 if there is no such arc."""
        return self._spare.get(end, {}).get(start, 0)

    def fill(self, start, end):
        """Let as much go from the start to the end as can; the places to which more could still go."""
        before = self._before(start)
        while end in before:
            self._push(before, end)
            before = self._before(start)
        return list(before)

    def _before(self, start):
        """Each place that can be reached by arcs with something to spare, with the place before it.

        The nearest places come first: along shortest ways only a few pushes are needed, however great the numbers.
        """
        before = {start: None}
        line = [start]
        at = 0
        while at < len(line):
            place = line[at]
            for end, spare in self._spare[place].items():
                if spare > 0 and end not in before:
                    before[end] = place
                    line.append(end)
            at += 1
        return before

    def _push(self, before, end):
        """Send as much as fits along the way that leads to the end."""
        arcs = []
        place = end
        while before[place] is not None:
            arcs.append((before[place], place))
            place = before[place]
        many = min([self._spare[one][other] for one, other in arcs])
        for one, other in arcs:
            self._spare[one][other] -= many
            self._spare[other][one] += many

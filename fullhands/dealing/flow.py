"""The greatest flow through a small web of arcs, also at the least cost."""


class Flow:
    """A flow along arcs between places with names of any kind. An arc cannot be given in both directions."""

    def __init__(self):
        # How much more may go from one place to the next one; what goes may also be taken back.
        self._spare = {}
        # What one more costs on its way from one place to the next one.
        self._cost = {}

    def add_arc(self, start, end, most, cost=0):
        """Add an arc along which at most this much may go, each at this cost, which is not below 0."""
        for place in (start, end):
            if place not in self._spare:
                self._spare[place] = {}
        self._spare[start][end] = most
        self._spare[end][start] = 0
        self._cost[(start, end)] = cost
        self._cost[(end, start)] = -cost

    def along(self, start, end):
        """How much goes along this arc, 0 if there is no such arc."""
        return self._spare.get(end, {}).get(start, 0)

    def fill(self, start, end):
        """Let as much go from the start to the end as can; the places to which more could still go."""
        before = self._before(start)
        while end in before:
            self._push(before, end)
            before = self._before(start)
        return list(before)

    def fill_cheaply(self, start, end):
        """Let as much go from the start to the end as can, at the least cost, where nothing went before."""
        _, before = self._cheapest([start])
        while end in before:
            self._push(before, end)
            _, before = self._cheapest([start])

    def levels(self):
        """A number for each place such that along no arc with something to spare it rises by more than the cost.

        There are such numbers only if nothing could go from place to place at a lower cost.
        """
        levels, _ = self._cheapest(list(self._spare))
        return levels

    def _cheapest(self, starts):
        """The least cost to come from a start to each place that can be reached, and the place before it.

        No circle of arcs has a cost below 0, so that the costs stop getting lower.
        """
        costs = {start: 0 for start in starts}
        before = {start: None for start in starts}
        line = list(starts)
        at = 0
        while at < len(line):
            place = line[at]
            for end, spare in self._spare[place].items():
                cost = costs[place] + self._cost[(place, end)]
                if spare > 0 and (end not in costs or cost < costs[end]):
                    costs[end] = cost
                    before[end] = place
                    line.append(end)
            at += 1
        return (costs, before)

    def _before(self, start):
        """Each place that can be reached by arcs with something to spare, with the place before it.

        The nearest places come first: along shortest ways only a few pushes are needed, however great the numbers.
        """
        before = {start: None}
        line = [start]
        at = 0
        while at < len(line):
            place = line[at]
            for end, spare in self._spare[place].items():
                if spare > 0 and end not in before:
                    before[end] = place
                    line.append(end)
            at += 1
        return before

    def _push(self, before, end):
        """Send as much as fits along the way that leads to the end."""
        arcs = []
        place = end
        while before[place] is not None:
            arcs.append((before[place], place))
            place = before[place]
        many = min([self._spare[one][other] for one, other in arcs])
        for one, other in arcs:
            self._spare[one][other] -= many
            self._spare[other][one] += many

"""Standings: which dishes are held by whom."""

from fullhands.errors import BadStanding
from fullhands.ground.check import need_kind, need_person


class Standing:
    """A standing of a table. It never changes."""

    def __init__(self, table, places):
        self.table = table
        self.places = tuple([tuple(row) for row in places])
        check_rows(table, self.places)
        self._held = held_by_people(table, self.places)
        check_bounds(table, self.places, self._held)

    @staticmethod
    def empty(table):
        return Standing(table, [[0] * (len(way) - 1) for way, _ in table.kinds])

    def held(self, person):
        need_person(self.table, person)
        return self._held[person]

    def free(self, person):
        need_person(self.table, person)
        return self.table.hands[person] - self._held[person]

    def dishes(self, kind, person):
        step = self.table.steps_to(kind, person)
        if step is None or step == len(self.places[kind]):
            return 0
        return self.places[kind][step]

    def out(self, kind):
        need_kind(self.table, kind)
        return sum(self.places[kind])

    def full(self):
        return tuple([person for person in range(self.table.people) if self.free(person) == 0])

    def wanted_from(self, person):
        need_person(self.table, person)
        kinds = [kind for kind in range(len(self.places)) if self.dishes(kind, person) > 0]
        return tuple(sorted({self.table.wants(kind, person) for kind in kinds}))

    @property
    def total(self):
        return sum(self._held)

    @property
    def left(self):
        return sum([(len(row) - step) * many for row in self.places for step, many in enumerate(row)])


def check_rows(table, places):
    """Raise BadStanding if the rows do not fit the ways of the kinds."""
    if len(places) != len(table.kinds):
        raise BadStanding("rows", len(places))
    for kind, row in enumerate(places):
        steps = len(table.kinds[kind][0]) - 1
        if len(row) != steps or any([many < 0 for many in row]):
            raise BadStanding("places", kind)


def held_by_people(table, places):
    """For each person how many dishes they hold."""
    held = [0] * table.people
    for (way, _), row in zip(table.kinds, places):
        for person, many in zip(way, row):
            held[person] += many
    return tuple(held)


def check_bounds(table, places, held):
    """Raise BadStanding if the hands, the mosts or the shares do not suffice."""
    for person, many in enumerate(held):
        if many > table.hands[person]:
            raise BadStanding("hands", person)
    for kind, (_, most) in enumerate(table.kinds):
        if sum(places[kind]) > most:
            raise BadStanding("most", kind)
    for share, (kinds, bound) in enumerate(table.shares):
        if sum([sum(places[kind]) for kind in kinds]) > bound:
            raise BadStanding("shares", share)

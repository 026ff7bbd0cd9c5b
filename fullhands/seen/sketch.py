"""Sketches: trees of which some numbers are known only within ranges."""

from fullhands.dealing.judge import judge
from fullhands.errors import BadVector, NoSuch
from fullhands.ground.check import need_kind, need_person, need_tree
from fullhands.ground.table import Table
from fullhands.least.dishes import least_dishes


class Sketch:
    """A tree with the least numbers, and by how much each of them may be greater. It never changes."""

    def __init__(self, table, more_hands, more_mosts):
        need_tree(table)
        need_more(more_hands, table.people)
        need_more(more_mosts, len(table.kinds))
        self._table = table
        self._more_hands = tuple(more_hands)
        self._more_mosts = tuple(more_mosts)
        # Raises BadTable if the greatest numbers are too great; no other world can break a rule then.
        world_of(table, self._more_hands, self._more_mosts)

    def harsh(self):
        return world_of(self._table, [0] * len(self._more_hands), self._more_mosts)

    def mild(self):
        return world_of(self._table, self._more_hands, [0] * len(self._more_mosts))

    def ask_safe(self):
        harsh = self.harsh()
        mild = self.mild()
        if not judge(harsh).STUCK:
            return ("safe",)
        if judge(mild).STUCK:
            return ("stuck",)
        return ("open", harsh, mild)

    def dishes_range(self):
        return (least_dishes(self.harsh()), least_dishes(self.mild()))

    def told_hands(self, person, many):
        need_person(self._table, person)
        need_within(many, self._table.hands[person], self._more_hands[person])
        known = self._more_hands[:person] + (0,) + self._more_hands[person + 1:]
        return Sketch(self._table.with_hands(person, many), known, self._more_mosts)

    def told_most(self, kind, most):
        need_kind(self._table, kind)
        need_within(most, self._table.kinds[kind][1], self._more_mosts[kind])
        known = self._more_mosts[:kind] + (0,) + self._more_mosts[kind + 1:]
        return Sketch(self._table.with_most(kind, most), self._more_hands, known)


def need_more(row, many):
    """Raise BadVector unless the row has so many entries, none of them below 0."""
    if len(row) != many or any([entry < 0 for entry in row]):
        raise BadVector(0)


def need_within(number, least, more):
    if not least <= number <= least + more:
        raise NoSuch("number")


def world_of(table, more_hands, more_mosts):
    """The tree with so many more hands and so much greater mosts. Raises BadTable."""
    hands = [many + more for many, more in zip(table.hands, more_hands)]
    kinds = [(way, most + more) for (way, most), more in zip(table.kinds, more_mosts)]
    return Table(hands, table.ties, kinds, quick=table.quick, shares=table.shares)

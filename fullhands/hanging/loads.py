"""Loads: what it takes at least to fill some hands of a person from one side."""

from fullhands.errors import BadLoads, NoSuch
from fullhands.ground.check import MOST_HANDS
from fullhands.hanging.boundless import is_less, least_of, sum_of


class Loads:
    """Entries for 1 to 4 hands, each at least as great as the one before it. They never change."""

    def __init__(self, entries):
        need_loads(entries)
        self._entries = tuple(entries)
        # Entry 0 stands in front, so that each entry is found at its own number.
        self._row = (0,) + self._entries

    @staticmethod
    def none():
        return Loads([None] * MOST_HANDS)

    def __add__(self, other):
        return Loads([least_sum(self._row, other._row, hands) for hands in range(1, MOST_HANDS + 1)])

    def __eq__(self, other):
        return isinstance(other, Loads) and self._row == other._row

    def __getitem__(self, at):
        if not 0 <= at <= MOST_HANDS:
            raise NoSuch("entry")
        return self._row[at]

    def __iter__(self):
        return iter(self._entries)

    def first_difference(self, other):
        for hands in range(1, MOST_HANDS + 1):
            if self[hands] != other[hands]:
                return hands
        return None

    def times(self, many):
        found = Loads.none()
        # Of more than 4 loads, only 4 can each fill a hand of the same person; the others add nothing.
        for _ in range(min(many, MOST_HANDS)):
            found = found + self
        return found


def need_loads(entries):
    """Raise BadLoads unless these are four entries, none of them below 0 or less than the one before it."""
    if len(entries) != MOST_HANDS:
        raise BadLoads()
    before = 0
    for entry in entries:
        if is_less(entry, before):
            raise BadLoads()
        before = entry


def least_sum(row, other, hands):
    """The least sum with which the two rows fill so many hands together."""
    return least_of([sum_of([row[at], other[hands - at]]) for at in range(hands + 1)])

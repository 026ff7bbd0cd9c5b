"""All dealings of a lot, listed, counted and numbered."""

from fullhands.dealing.deal import is_within_bounds, need_dealing
from fullhands.dealing.lots import need_lot
from fullhands.dealing.rows import full_rows, need_few, none_used, sums
from fullhands.errors import NoSuch


class Tally:
    """Counts the dealings of a lot, whole or from some person on."""

    def __init__(self, table, lot):
        self._table = table
        self._nothing = none_used(table)
        self._rows = [full_rows(table, lot, person) for person in lot]
        self._counted = {}

    def how_many(self):
        return self._many(0, self._nothing)

    def numbered(self, index):
        """The dealing with this index, which is not below 0 and less than how many there are."""
        used = self._nothing
        left = index
        found = []
        for at in range(len(self._rows)):
            for row in self._fitting(at, used):
                many = self._many(at + 1, sums(used, row))
                if left < many:
                    found.append(row)
                    used = sums(used, row)
                    break
                left -= many
        return tuple(found)

    def number(self, dealing):
        """The index of this dealing, which is one of the lot."""
        used = self._nothing
        before = 0
        for at, told in enumerate(dealing):
            row = tuple(told)
            earlier = [other for other in self._fitting(at, used) if other < row]
            before += sum([self._many(at + 1, sums(used, other)) for other in earlier])
            used = sums(used, row)
        return before

    def _many(self, at, used):
        """In how many ways the people from this one on can be dealt when so many dishes of each kind are used."""
        if at == len(self._rows):
            return 1
        if (at, used) not in self._counted:
            later = [sums(used, row) for row in self._fitting(at, used)]
            self._counted[(at, used)] = sum([self._many(at + 1, more) for more in later])
        return self._counted[(at, used)]

    def _fitting(self, at, used):
        """The rows that this person of the lot can be dealt then, in tuple order."""
        return [row for row in self._rows[at] if is_within_bounds(self._table, sums(used, row))]


def dealings(table, lot):
    """All dealings of the lot, in tuple order. Raises BadLot, TooGreat."""
    tally = tally_of(table, lot)
    for index in range(tally.how_many()):
        yield tally.numbered(index)


def count_dealings(table, lot):
    """How many dealings the lot has. Raises BadLot, TooGreat."""
    return tally_of(table, lot).how_many()


def dealing_at(table, lot, index):
    """The dealing with this index. Raises BadLot, TooGreat, NoSuch."""
    tally = tally_of(table, lot)
    if not 0 <= index < tally.how_many():
        raise NoSuch("dealing")
    return tally.numbered(index)


def index_of(table, lot, dealing):
    """The index of the dealing. Raises BadLot, BadDealing, TooGreat."""
    need_dealing(table, lot, dealing)
    return tally_of(table, lot).number(dealing)


def tally_of(table, lot):
    """The tally of the lot. Raises BadLot, TooGreat."""
    need_lot(table, lot)
    need_few(table, lot)
    return Tally(table, lot)

"""Danger sets: sets of rows that with each row contain all rows that are at least as great."""

from fullhands.errors import BadVector, TooGreat

MOST_SIZE = 4


class Danger:
    """The rows that are at least as great in each entry as one of some rows. It never changes."""

    def __init__(self, size, rows):
        need_size(size)
        need_vectors(size, rows)
        self.size = size
        self._rows = least_rows([tuple(row) for row in rows])

    @staticmethod
    def from_tops(size, tops):
        need_size(size)
        need_vectors(size, tops)
        rows = [(0,) * size]
        for top in tops:
            rows = least_rows(joined(rows, rows_beyond(top)))
        return Danger(size, rows)

    def __iter__(self):
        return iter(self._rows)

    def __len__(self):
        return len(self._rows)

    def __contains__(self, row):
        return is_vector(self.size, row) and any([is_at_most(least, row) for least in self._rows])

    def __or__(self, other):
        need_same_size(self, other)
        return Danger(self.size, list(self) + list(other))

    def __and__(self, other):
        need_same_size(self, other)
        return Danger(self.size, joined(list(self), list(other)))

    def __eq__(self, other):
        return isinstance(other, Danger) and self.size == other.size and self._rows == other._rows

    def beside(self, other):
        return Danger(self.size + other.size, [row + more for row in self for more in other])

    def tops(self):
        found = [(None,) * self.size]
        for row in self:
            kept = [top for top in found if not is_at_most(row, top)]
            parts = [part for top in found if is_at_most(row, top) for part in parts_below(top, row)]
            # A kept top lies under no part: then it would lie under the top that the part was made from.
            found = kept + [part for part in greatest(parts) if not is_below_any(part, kept)]
        return sorted(found, key=top_place)

    def parting(self, other):
        need_same_size(self, other)
        rows = [row for row in self if row not in other] + [row for row in other if row not in self]
        if not rows:
            return None
        return min(rows, key=lambda row: (sum(row), row))


def need_size(size):
    if size > MOST_SIZE:
        raise TooGreat("size")


def need_vectors(size, rows):
    for index, row in enumerate(rows):
        if not is_vector(size, row):
            raise BadVector(index)


def need_same_size(one, other):
    if one.size != other.size:
        raise BadVector(0)


def is_vector(size, row):
    """True for a row or a top of this size: as many entries, and no integer among them below 0."""
    return len(row) == size and all([entry is None or entry >= 0 for entry in row])


def is_at_most(row, other):
    """True if no entry is greater than the other row's or top's, where None is greater than every integer."""
    return all([above is None or (entry is not None and entry <= above) for entry, above in zip(row, other)])


def is_below_any(row, others):
    return any([is_at_most(row, other) for other in others])


def least_rows(rows):
    """Those of the rows for which no other one is at most as great in each entry, in tuple order."""
    found = []
    # In tuple order a row comes behind those that are at most as great.
    for row in sorted(set(rows)):
        if not any([is_at_most(least, row) for least in found]):
            found.append(row)
    return tuple(found)


def joined(rows, others):
    """For each row and each other row the least row that is at least as great as both."""
    return [tuple([max(one, two) for one, two in zip(row, other)]) for row in rows for other in others]


def rows_beyond(top):
    """The least rows that do not lie under the top: each has one entry that is not 0."""
    entries = [(at, entry) for at, entry in enumerate(top) if entry is not None]
    return [(0,) * at + (entry + 1,) + (0,) * (len(top) - at - 1) for at, entry in entries]


def parts_below(top, row):
    """The greatest tops that lie under this top and under which the row does not lie."""
    return [top[:at] + (entry - 1,) + top[at + 1:] for at, entry in enumerate(row) if entry > 0]


def greatest(tops):
    """Those of the tops that do not lie under another one, each once."""
    found = []
    # In tuple order, with None behind all integers, a top comes behind those that lie under it.
    for top in sorted(tops, key=top_place, reverse=True):
        if not is_below_any(top, found):
            found.append(top)
    return found


def top_place(top):
    """Where the top stands in tuple order, with None behind all integers."""
    return tuple([(1, 0) if entry is None else (0, entry) for entry in top])

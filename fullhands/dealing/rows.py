"""The rows that people of a lot can be dealt, and for which tables and lots all of them are gone through."""

from fullhands.dealing.deal import is_row
from fullhands.dealing.lots import lot_hands
from fullhands.errors import TooGreat

MOST_KINDS = 4
MOST_HANDS = 8


def need_few(table, people):
    """Raise TooGreat if there are too many kinds, or if these people have too many hands together."""
    if len(table.kinds) > MOST_KINDS:
        raise TooGreat("kinds")
    if lot_hands(table, people) > MOST_HANDS:
        raise TooGreat("hands")


def full_rows(table, lot, person):
    """The rows that fill the hands of this person of the lot, in tuple order, whatever the mosts and the shares."""
    rows = [()]
    for _ in table.kinds:
        rows = [row + (many,) for row in rows for many in range(table.hands[person] - sum(row) + 1)]
    return [row for row in rows if is_row(table, lot, person, row)]


def none_used(table):
    """The uses of no dishes."""
    return (0,) * len(table.kinds)


def sums(one, other):
    """The row of the sums of the entries."""
    return tuple([first + second for first, second in zip(one, other)])

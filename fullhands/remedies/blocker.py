"""Least sets, and the least sets that share a number with each of some sets."""

from fullhands.errors import TooGreat

MOST_NUMBERS = 8


def least_sets(sets):
    """The sets of which no other one is a proper subset, by the number of their entries and then in tuple order."""
    rows = sorted({tuple(sorted(members)) for members in sets})
    found = []
    for row in sorted(rows, key=len):
        if not any([is_subset(least, row) for least in found]):
            found.append(row)
    return found


def blocker(sets):
    """The least sets that share at least one number with each of the given sets. Raises TooGreat."""
    if len({number for members in sets for number in members}) > MOST_NUMBERS:
        raise TooGreat("numbers")
    found = [()]
    for members in sets:
        touching = [row for row in found if is_touching(row, members)]
        others = [row for row in found if not is_touching(row, members)]
        found = least_sets(touching + [row + (number,) for row in others for number in members])
    return found


def is_subset(row, other):
    return all([number in other for number in row])


def is_touching(row, other):
    return any([number in other for number in row])

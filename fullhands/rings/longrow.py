"""Long rows of people, along which one kind goes there and another one back."""

from fullhands.errors import TooGreat
from fullhands.ground.check import MOST_PEOPLE
from fullhands.ground.table import Table


def row_least(pattern, many, forward, backward, both=None):
    """The least dishes of the long row with so many people, or None if it is safe."""
    stretches = full_stretches(pattern, forward, backward, both)
    return min([hands for last, hands in stretches if last < many], default=None)


def row_first_stuck(pattern, forward, backward, both=None):
    """The least number of people with which the long row can get stuck, or None if there is none."""
    return min([last + 1 for last, _ in full_stretches(pattern, forward, backward, both)], default=None)


def row_table(pattern, many, forward, backward, both=None):
    """The long row with so many people as a table. Raises TooGreat."""
    if many > MOST_PEOPLE:
        raise TooGreat("people")
    way = tuple(range(many))
    hands = [hands_at(pattern, person) for person in way]
    shares = [] if both is None else [((0, 1), both)]
    return Table(hands, list(zip(way, way[1:])), [(way, forward), (way[::-1], backward)], shares=shares)


def full_stretches(pattern, forward, backward, both):
    """The stretches of the row that can be dealt full, each as its last person and the hands of its people together.

    Only those that begin within the first turn of the pattern: the others are the same ones farther along the row.
    """
    most = forward + backward if both is None else min(forward + backward, both)
    found = []
    for first in range(len(pattern)):
        # Everybody has a hand at least, so that no stretch of more people can be dealt full.
        for last in range(first + 1, first + most):
            hands = [hands_at(pattern, person) for person in range(first, last + 1)]
            if hands[0] <= forward and hands[-1] <= backward and sum(hands) <= most:
                found.append((last, sum(hands)))
    return found


def hands_at(pattern, person):
    return pattern[person % len(pattern)]

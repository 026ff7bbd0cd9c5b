"""What the remedies need: small trees, and prices for what is in their sets."""

from fullhands.errors import BadVector, TooGreat
from fullhands.ground.check import need_tree

MOST_PEOPLE = 4


def need_small_tree(table):
    need_tree(table)
    if table.people > MOST_PEOPLE:
        raise TooGreat("people")


def need_prices(prices, many):
    """Raise BadVector unless there are so many prices, none of them below 0."""
    if len(prices) != many or any([price < 0 for price in prices]):
        raise BadVector(0)

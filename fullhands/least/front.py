"""How many dishes and how much effort it takes together to get stuck."""

from fullhands.dealing.lots import lot_hands
from fullhands.ground.check import need_tree
from fullhands.least.cheapest import slow_costs


def front(table):
    """The pairs of dishes and effort of which neither can be lowered alone, by ascending dishes. Raises WrongGround."""
    need_tree(table)
    found = []
    for dishes, effort in sorted([(lot_hands(table, lot), cost) for lot, cost in slow_costs(table)]):
        if not found or effort < found[-1][1]:
            found.append((dishes, effort))
    return found


def stuck_within(table, *, most_dishes=None, most_effort=None):
    """True if the tree can get stuck with no more dishes and effort than that, None for any. Raises WrongGround."""
    return any([is_within(dishes, most_dishes) and is_within(effort, most_effort) for dishes, effort in front(table)])


def is_within(number, most):
    return most is None or number <= most

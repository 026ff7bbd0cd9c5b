"""How many hands make a tree safe, and what it costs to hire them."""

from fullhands.dealing.lots import lots, sets_below, supply
from fullhands.ground.check import MOST_HANDS
from fullhands.remedies.blocker import is_subset
from fullhands.remedies.needs import need_prices, need_small_tree


def least_hands(table):
    """The rows of hands that are safe while none of them can be lowered. Raises WrongGround, TooGreat."""
    need_small_tree(table)
    safe = safe_rows(table)
    # An entry that is lowered to 0 makes no row that is kept here.
    kept = {row: True for row in safe}
    return [row for row in safe if not any([lower in kept for lower in lowered(row)])]


def cheapest_hands(table, prices):
    """The least cost of more hands that make the tree safe, and the row of all hands then, or None.

    Raises WrongGround, TooGreat, BadVector.
    """
    need_small_tree(table)
    need_prices(prices, table.people)
    found = []
    for row in safe_rows(table):
        more = [many - before for many, before in zip(row, table.hands)]
        if min(more) >= 0:
            found.append((sum([many * price for many, price in zip(more, prices)]), row))
    return min(found, default=None)


def safe_rows(table):
    """The rows of 1 to 4 hands for each person with which the tree is safe, in tuple order."""
    supplies = supplies_of_lots(table)
    rows = [()]
    for _ in range(table.people):
        rows = [row + (many,) for row in rows for many in range(1, MOST_HANDS + 1)]
    return [row for row in rows if all([has_short(pairs, row) for pairs in supplies])]


def supplies_of_lots(table):
    """For each slow lot the sets of its people, each with their supply, which does not depend on their hands."""
    found = []
    for lot in lots(table, slow=True):
        sets = [people for people in sets_below(table.people) if people and is_subset(people, lot)]
        found.append([(people, supply(table, lot, people)) for people in sets])
    return found


def has_short(pairs, hands):
    """True if some of these sets of people have more hands together than their supply."""
    return any([sum([hands[person] for person in people]) > most for people, most in pairs])


def lowered(row):
    """The rows in which one entry is lowered by one."""
    return [row[:at] + (many - 1,) + row[at + 1:] for at, many in enumerate(row)]

"""Reliefs, quickenings and barrings of a tree, and the cheapest ones of them."""

from fullhands.dealing.deal import deal
from fullhands.dealing.judge import dealt_lots
from fullhands.dealing.lots import sets_below, ties_within
from fullhands.ground.check import need_tree
from fullhands.remedies.blocker import blocker, is_subset, least_sets
from fullhands.remedies.needs import need_prices, need_small_tree


def least_lots(table):
    """The slow lots that can be dealt while none within them can, by their people. Raises WrongGround."""
    need_tree(table)
    return least_sets(dealt_lots(table))


def reliefs(table):
    """The least sets of people without whom no slow lot can be dealt. Raises WrongGround."""
    return blocker(least_lots(table))


def quickenings(table):
    """The least sets of ties that make the tree safe when they become quick. Raises WrongGround."""
    # A lot that can be dealt counts no more as soon as one of its ties is quick.
    sets = [[table.ties.index(tie) for tie in ties_within(table, lot)] for lot in least_lots(table)]
    return [tuple([table.ties[number] for number in members]) for members in blocker(sets)]


def barrings(table):
    """The least sets of kinds that make the tree safe when their mosts become 0. Raises WrongGround, TooGreat."""
    need_small_tree(table)
    # Where a lot cannot be dealt, no bar makes a difference.
    dealt = dealt_lots(table)
    found = []
    for kinds in sorted(sets_below(len(table.kinds)), key=lambda members: (len(members), members)):
        if not any([is_subset(least, kinds) for least in found]) and is_barring(table, dealt, kinds):
            found.append(kinds)
    return found


def cheapest_relief(table, prices):
    """The least cost of a relief and the first one that costs so much. Raises WrongGround, BadVector."""
    return cheapest(reliefs(table), list(range(table.people)), prices)


def cheapest_quickening(table, prices):
    """The least cost of a quickening and the first one that costs so much. Raises WrongGround, BadVector."""
    return cheapest(quickenings(table), list(table.ties), prices)


def cheapest_barring(table, prices):
    """The least cost of a barring and the first one that costs so much. Raises WrongGround, TooGreat, BadVector."""
    return cheapest(barrings(table), list(range(len(table.kinds))), prices)


def is_barring(table, dealt, kinds):
    """True if none of these lots can be dealt without these kinds."""
    barred = table
    for kind in kinds:
        barred = barred.with_most(kind, 0)
    return all([deal(barred, lot) is None for lot in dealt])


def cheapest(sets, members, prices):
    """The least cost and the first one of these sets that costs so much, when these members have these prices."""
    need_prices(prices, len(members))
    costs = [sum([prices[members.index(member)] for member in some]) for some in sets]
    least = min(costs)
    return (least, sets[costs.index(least)])

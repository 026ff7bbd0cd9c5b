"""The least dishes with which a tree gets stuck."""

from fullhands.dealing.deal import deal, short_set
from fullhands.dealing.judge import dealt_lots, stuck_by
from fullhands.dealing.lots import lot_hands, lots
from fullhands.ground.check import need_tree


def least_dishes(table):
    """The least dishes of the tree, or None if it is safe. Raises WrongGround."""
    need_tree(table)
    return min([lot_hands(table, lot) for lot in dealt_lots(table)], default=None)


def dishes_certificate(table):
    """The least dishes, a verdict and a short set for each slow lot of fewer hands, or None. Raises WrongGround."""
    least = least_dishes(table)
    if least is None:
        return None
    slow = lots(table, slow=True)
    fewer = [lot for lot in slow if lot_hands(table, lot) < least]
    shorts = tuple([(lot, short_set(table, lot)) for lot in fewer])
    return (least, least_verdict(table, slow, least), shorts)


def least_verdict(table, slow, least):
    """A stuck verdict whose lot is one of these slow lots and has this least number of hands."""
    pairs = [(lot, deal(table, lot)) for lot in slow if lot_hands(table, lot) == least]
    # What has the fewest hands is a core already: what cutting leaves would have fewer.
    lot, dealing = [pair for pair in pairs if pair[1] is not None][0]
    return stuck_by(table, lot, dealing)

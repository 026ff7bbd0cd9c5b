"""Judging: whether a table can get stuck, with a certificate."""

from fullhands.dealing.core import core, placing
from fullhands.dealing.deal import deal, short_set
from fullhands.dealing.lots import lots
from fullhands.dealing.verdict import SafeVerdict, StuckVerdict
from fullhands.ground.check import need_tree


def judge(table):
    """A stuck verdict or a safe verdict that holds for this tree. Raises WrongGround."""
    need_tree(table)
    shorts = []
    for lot in lots(table, slow=True):
        dealing = deal(table, lot)
        if dealing is not None:
            return stuck_by(table, lot, dealing)
        shorts.append((lot, short_set(table, lot)))
    return SafeVerdict("tree", shorts)


def no_lot(table):
    """A safe verdict that shows that no lot of the table can be dealt, or None if one can."""
    shorts = [(lot, short_set(table, lot)) for lot in lots(table)]
    if any([people is None for _, people in shorts]):
        return None
    return SafeVerdict("web", shorts)


def dealt_lots(table):
    """The slow lots that can be dealt, in their order."""
    return [lot for lot in lots(table, slow=True) if deal(table, lot) is not None]


def stuck_by(table, lot, dealing):
    """The stuck verdict with a core of this dealing of a slow lot of a tree."""
    people, rows = core(table, lot, dealing)
    return StuckVerdict(people, rows, placing(table, people, rows))

"""The danger sets of trees, and the bounds with which trees can get stuck."""

from fullhands.bounds.danger import Danger
from fullhands.dealing.deal import is_within_bounds
from fullhands.dealing.lots import lots
from fullhands.dealing.rows import full_rows, need_few, none_used, sums
from fullhands.errors import BadVector
from fullhands.ground.check import need_tree
from fullhands.ground.table import Table


def danger_of(table):
    """The danger set of the tree. Raises WrongGround, TooGreat."""
    need_tree(table)
    need_few(table, list(range(table.people)))
    rows = []
    for lot in lots(table, slow=True):
        rows.extend(uses_of(table, lot))
    return Danger(len(table.kinds), rows)


def stuck_with(table, mosts, *, shares=(), at_once=None):
    """True if the tree with these bounds can get stuck. Raises WrongGround, TooGreat, BadVector, BadTable."""
    danger = danger_of(table)
    if len(mosts) != len(table.kinds):
        raise BadVector(0)
    kinds = [(way, most) for (way, _), most in zip(table.kinds, mosts)]
    bounded = Table(table.hands, table.ties, kinds, quick=table.quick, shares=shares)
    allowed = [row for row in danger if is_within_bounds(bounded, row)]
    return any([at_once is None or sum(row) <= at_once for row in allowed])


def alike_bounds(one, other):
    """None for trees with the same danger set, otherwise the parting row. Raises WrongGround, TooGreat, BadVector."""
    danger = danger_of(one)
    return danger.parting(danger_of(other))


def uses_of(table, lot):
    """The uses of all dealings of the lot, whatever the mosts and the shares."""
    found = [none_used(table)]
    for person in lot:
        rows = full_rows(table, lot, person)
        found = sorted({sums(used, row) for used in found for row in rows})
    return found

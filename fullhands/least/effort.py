"""The least effort with which a tree gets stuck."""

from fullhands.dealing.deal import dealing_cost, rows_along, short_set
from fullhands.dealing.judge import stuck_by
from fullhands.dealing.lots import lots
from fullhands.ground.check import need_tree
from fullhands.least.cheapest import cheapest_flow, slow_costs, weights_row


def least_effort(table):
    """The least effort of the tree, or None if it is safe. Raises WrongGround."""
    need_tree(table)
    return min([cost for _, cost in slow_costs(table)], default=None)


def effort_certificate(table):
    """The least effort, a verdict and a row for each slow lot, or None if the tree is safe. Raises WrongGround."""
    need_tree(table)
    rows = []
    dealt = []
    for lot in lots(table, slow=True):
        flow = cheapest_flow(table, lot)
        dealing = rows_along(table, lot, flow)
        if dealing is None:
            rows.append(("short", lot, short_set(table, lot)))
        else:
            rows.append(weights_row(table, lot, flow))
            dealt.append((dealing_cost(table, lot, dealing), lot, dealing))
    if not dealt:
        return None
    # What costs least is a core already: what cutting leaves would cost less.
    cost, lot, dealing = min(dealt)
    return (cost, stuck_by(table, lot, dealing), tuple(rows))

"""Dealings that cost least, and weights that show that no dealing costs less."""

from fullhands.dealing.deal import BOUNDS, HANDS, dealing_cost, flow_of, rows_along
from fullhands.dealing.lots import lots


def slow_costs(table):
    """The slow lots that can be dealt, in their order, each with the least cost of a dealing."""
    found = []
    for lot in lots(table, slow=True):
        dealing = rows_along(table, lot, cheapest_flow(table, lot))
        if dealing is not None:
            found.append((lot, dealing_cost(table, lot, dealing)))
    return found


def cheapest_flow(table, lot):
    """The flow of a dealing that costs least, if the lot can be dealt."""
    flow = flow_of(table, lot)
    flow.fill_cheaply(HANDS, BOUNDS)
    return flow


def weights_row(table, lot, flow):
    """The weights with which no dealing costs less than the one whose dishes go along this cheapest flow."""
    levels = flow.levels()
    top = levels[BOUNDS]
    # Only along an arc that is used up can the level rise by more than the cost; the weight is what it rises by.
    people = tuple([top - levels[("person", person)] for person in lot])
    kinds = []
    for kind in range(len(table.kinds)):
        share = table.share_of(kind)
        behind = top if share is None else levels[("share", share)]
        kinds.append(max(0, behind - levels[("kind", kind)]))
    shares = [max(0, top - levels[("share", share)]) for share in range(len(table.shares))]
    return ("weights", lot, people, tuple(kinds), tuple(shares))

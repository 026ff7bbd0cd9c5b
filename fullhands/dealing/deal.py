"""Dealings of a lot, and the short sets of people that show that there is none."""

from fullhands.dealing.flow import Flow
from fullhands.dealing.lots import can_get, need_lot
from fullhands.errors import BadDealing
from fullhands.moves.standing import Standing

# The two ends of the flow that deals: what hands there are to fill, and what bounds there are to use up.
HANDS = ("hands",)
BOUNDS = ("bounds",)


def deal(table, lot):
    """Any dealing of the lot, or None if it cannot be dealt. Raises BadLot."""
    need_lot(table, lot)
    flow = flow_of(table, lot)
    flow.fill(HANDS, BOUNDS)
    return rows_along(table, lot, flow)


def short_set(table, lot):
    """Any short set of the lot, in ascending order, or None if the lot can be dealt. Raises BadLot."""
    need_lot(table, lot)
    # When no more comes through, those to whom more could still go have more hands than their supply.
    reached = flow_of(table, lot).fill(HANDS, BOUNDS)
    people = [person for person in lot if ("person", person) in reached]
    return tuple(people) if people else None


def is_dealing(table, lot, dealing):
    """True if these rows are a dealing of the lot. Raises BadLot."""
    need_lot(table, lot)
    if len(dealing) != len(lot) or any([len(row) != len(table.kinds) for row in dealing]):
        return False
    for person, row in zip(lot, dealing):
        if not is_row(table, lot, person, row):
            return False
    return is_within_bounds(table, uses(dealing))


def uses(dealing):
    """How many dishes of each kind the rows have together."""
    return tuple([sum([row[kind] for row in dealing]) for kind in range(len(dealing[0]))])


def dealt_standing(table, lot, dealing):
    """The standing in which exactly these dishes are held. Raises BadLot, BadDealing."""
    need_dealing(table, lot, dealing)
    rows = {person: row for person, row in zip(lot, dealing)}
    places = []
    for kind, (way, _) in enumerate(table.kinds):
        places.append([rows[person][kind] if person in rows else 0 for person in way[:-1]])
    return Standing(table, places)


def need_dealing(table, lot, dealing):
    if not is_dealing(table, lot, dealing):
        raise BadDealing()


def is_row(table, lot, person, row):
    """True if the person of the lot can be dealt this row, whatever the others are dealt."""
    for kind, many in enumerate(row):
        if many < 0 or (many > 0 and not can_get(table, lot, kind, person)):
            return False
    return sum(row) == table.hands[person]


def is_within_bounds(table, used):
    """True if the mosts and shares of the table allow as many dishes of each kind as are used."""
    if any([many > most for many, (_, most) in zip(used, table.kinds)]):
        return False
    return all([sum([used[kind] for kind in kinds]) <= bound for kinds, bound in table.shares])


def dealing_cost(table, lot, dealing):
    """The sum, over the dishes dealt, of one plus the passes that bring the dish to its person."""
    cost = 0
    for person, row in zip(lot, dealing):
        cost += sum([many * dish_cost(table, kind, person) for kind, many in enumerate(row) if many > 0])
    return cost


def dish_cost(table, kind, person):
    """The enter and the passes that bring a dish of this kind to a person on its way."""
    return 1 + table.steps_to(kind, person)


def rows_along(table, lot, flow):
    """The dealing whose dishes go along this flow, or None if they do not fill all hands."""
    kinds = range(len(table.kinds))
    rows = [[flow.along(("person", person), ("kind", kind)) for kind in kinds] for person in lot]
    if any([sum(row) < table.hands[person] for person, row in zip(lot, rows)]):
        return None
    return tuple([tuple(row) for row in rows])


def flow_of(table, lot):
    """A flow in which dealt dishes go from hands by people, kinds and shares to bounds; nothing goes yet."""
    flow = Flow()
    for person in lot:
        flow.add_arc(HANDS, ("person", person), table.hands[person])
    # More than there are hands, so that these arcs never bound the flow.
    plenty = sum(table.hands) + 1
    for kind, (_, most) in enumerate(table.kinds):
        for person in lot:
            if can_get(table, lot, kind, person):
                flow.add_arc(("person", person), ("kind", kind), plenty, dish_cost(table, kind, person))
        share = table.share_of(kind)
        flow.add_arc(("kind", kind), BOUNDS if share is None else ("share", share), most)
    for share, (_, bound) in enumerate(table.shares):
        flow.add_arc(("share", share), BOUNDS, bound)
    return flow

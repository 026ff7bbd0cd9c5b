"""Lots of people, and how many dishes could be dealt to some of them."""

from fullhands.errors import BadLot
from fullhands.ground.check import need_kind, need_person, reached_from


def lots(table, *, slow=False):
    """All lots of the table, or only the slow ones, by the number of their people and then in tuple order."""
    found = [members for members in sets_below(table.people) if is_lot(table, members)]
    if slow:
        found = [lot for lot in found if is_slow(table, lot)]
    return sorted(found, key=lambda lot: (len(lot), lot))


def can_hold(table, lot, kind, person):
    """True if a dish of this kind can be dealt to this person. Raises NoSuch, BadLot."""
    need_kind(table, kind)
    need_person(table, person)
    need_lot(table, lot)
    return can_get(table, lot, kind, person)


def supply(table, lot, people):
    """The greatest number of dishes for these people of the lot, if they had hands without end. Raises BadLot."""
    need_lot(table, lot)
    if not is_part(lot, people):
        raise BadLot()
    kinds = [kind for kind in range(len(table.kinds)) if any([can_get(table, lot, kind, one) for one in people])]
    many = sum([table.kinds[kind][1] for kind in kinds if table.share_of(kind) is None])
    for members, bound in table.shares:
        together = sum([table.kinds[kind][1] for kind in members if kind in kinds])
        many += min(bound, together)
    return many


def is_short(table, lot, people):
    """True if the people are a short set of this lot, in ascending order."""
    if list(people) != sorted(set(people)) or not is_part(lot, people):
        return False
    return lot_hands(table, people) > supply(table, lot, people)


def lot_hands(table, people):
    """How many hands these people have together."""
    return sum([table.hands[person] for person in people])


def need_lot(table, lot):
    if not is_lot(table, lot):
        raise BadLot()


def is_lot(table, lot):
    """True if the row is a lot as lots are written. A number that is not a person has no tie to the others."""
    if len(lot) < 2 or list(lot) != sorted(set(lot)):
        return False
    return len(reached_from(lot[0], ties_within(table, lot))) == len(lot)


def is_slow(table, lot):
    return not any([one in lot and other in lot for one, other in table.quick])


def ties_within(table, people):
    """The ties of the table between two of these people."""
    return [(one, other) for one, other in table.ties if one in people and other in people]


def is_part(lot, people):
    """True if the people are at least one person of the lot, each of them once."""
    if len(people) == 0 or len(set(people)) != len(people):
        return False
    return all([person in lot for person in people])


def can_get(table, lot, kind, person):
    """True if a dish of this kind, held by this person of the lot, wants a person of the lot."""
    return person in lot and table.wants(kind, person) in lot


def sets_below(many):
    """All sets of the numbers from 0 to many - 1, each in ascending order."""
    found = [()]
    for number in range(many):
        found = found + [members + (number,) for members in found]
    return found

"""Cores of dealings, and the runs that place them."""

from fullhands.dealing.deal import need_dealing
from fullhands.dealing.lots import ties_within
from fullhands.errors import NotCore
from fullhands.ground.check import need_tree, pair_of, reached_from


def is_core(table, lot, dealing):
    """True if along each tie of the lot dishes want both ways. Raises BadLot, BadDealing."""
    need_dealing(table, lot, dealing)
    return loose_tie(table, rows_of(lot, dealing)) is None


def core(table, lot, dealing):
    """A lot and its dealing that are a core, cut down from this dealing. Raises BadLot, BadDealing, WrongGround."""
    need_dealing(table, lot, dealing)
    need_tree(table)
    rows = rows_of(lot, dealing)
    loose = loose_tie(table, rows)
    while loose is not None:
        rows = cut_off(table, rows, loose)
        loose = loose_tie(table, rows)
    return (tuple(rows), tuple([rows[person] for person in rows]))


def placing(table, lot, dealing):
    """A run of enters and passes to exactly the dishes dealt. Raises BadLot, BadDealing, WrongGround, NotCore."""
    need_dealing(table, lot, dealing)
    need_tree(table)
    rows = rows_of(lot, dealing)
    if loose_tie(table, rows) is not None:
        raise NotCore()
    inward = next_inward(table, lot)
    chosen = {person: kind_towards(table, rows[person], person, inward[person]) for person in inward}
    run = []
    for person in rows:
        for kind, many in enumerate(rows[person]):
            # As long as each chosen dish is missing, every person has a hand free for what passes through.
            others = many - 1 if kind == chosen[person] else many
            run.extend(bringing(table, kind, person) * others)
    for person in inward:
        run.extend(bringing(table, chosen[person], person))
    return run


def rows_of(lot, dealing):
    """For each person of the lot, in ascending order, the row of what they are dealt."""
    return {person: tuple(row) for person, row in zip(lot, dealing)}


def loose_tie(table, rows):
    """A person and a neighbour, both of the lot, whom none of the person's dishes wants, or None."""
    for person in rows:
        for other in table.neighbours(person):
            if other in rows and kind_towards(table, rows[person], person, other) is None:
                return (person, other)
    return None


def kind_towards(table, row, person, other):
    """The first kind of which the person is dealt a dish that wants the other one, or None."""
    for kind, many in enumerate(row):
        if many > 0 and table.wants(kind, person) == other:
            return kind
    return None


def cut_off(table, rows, loose):
    """The rows of those who can still be reached from the first person without the loose tie."""
    person, other = loose
    ties = [tie for tie in ties_within(table, rows) if tie != pair_of(person, other)]
    reached = reached_from(person, ties)
    return {member: rows[member] for member in rows if member in reached}


def next_inward(table, lot):
    """For each person of the lot the next one towards the centre, those of the centre first, then ever farther ones.

    The centre is the first person and a neighbour, each of whom is the next one for the other.
    """
    first = lot[0]
    second = [other for other in table.neighbours(first) if other in lot][0]
    inward = {first: second, second: first}
    line = [first, second]
    at = 0
    while at < len(line):
        present = line[at]
        for other in table.neighbours(present):
            if other in lot and other not in inward:
                inward[other] = present
                line.append(other)
        at += 1
    return inward


def bringing(table, kind, person):
    """The moves that bring a dish of this kind from its enter to this person."""
    way = table.kinds[kind][0][:table.steps_to(kind, person)]
    return [("enter", kind)] + [("pass", kind, passer) for passer in way]

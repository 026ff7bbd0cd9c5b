"""Knots, whose dishes never move again, and settling."""

from fullhands.moves.step import after, possible


def knot(standing):
    """The people of the greatest knot, in ascending order; the empty tuple if there is none."""
    # Of two people who can swap neither is in a knot: the dish of either one wants the other one.
    members = [person for person in standing.full() if not can_swap(standing, person)]
    kept = kept_members(standing, members)
    while len(kept) < len(members):
        members = kept
        kept = kept_members(standing, members)
    return tuple(kept)


def settle(standing):
    """The run of first possible passes and swaps until none is possible, and the standing that it leads to."""
    run = []
    present = standing
    moves = onward(present)
    while moves:
        run.append(moves[0])
        present = after(present, moves[0])
        moves = onward(present)
    return (run, present)


def can_swap(standing, person):
    """True if the person and somebody over a quick tie hold dishes that want each other."""
    wanted = standing.wanted_from(person)
    near = [other for other in wanted if standing.table.is_quick(person, other)]
    return any([person in standing.wanted_from(other) for other in near])


def kept_members(standing, members):
    """Those of the members whose dishes all want members."""
    return [person for person in members if all([other in members for other in standing.wanted_from(person)])]


def onward(standing):
    """The possible passes and swaps."""
    return list(possible(standing, enters=False))

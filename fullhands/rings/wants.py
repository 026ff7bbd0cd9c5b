"""Rings of wants, which tell whether a table with one hand each can get stuck."""

from fullhands.dealing.deal import dealt_standing, is_within_bounds
from fullhands.dealing.verdict import StuckVerdict
from fullhands.errors import TooGreat, WrongGround
from fullhands.moves.bring import run_to

MOST_PEOPLE = 5


def rings_of_wants(table):
    """All rings of wants, by the number of their pairs and then in tuple order. Raises WrongGround, TooGreat."""
    need_one_hand(table)
    if table.people > MOST_PEOPLE:
        raise TooGreat("people")
    return all_rings(table)


def judge_single(table):
    """A stuck verdict that is made of a ring of wants, or None if the table is safe. Raises WrongGround."""
    need_one_hand(table)
    rings = all_rings(table)
    if not rings:
        return None
    # If not all dishes of this ring could be taken back, those left, each with the person it came from, would make a
    # ring with fewer passes.
    _, ring = min([(passes_behind(table, pairs), pairs) for pairs in rings])
    lot = sorted([person for person, _ in ring])
    dealing = [used_by(table, [pair for pair in ring if pair[0] == person]) for person in lot]
    return StuckVerdict(lot, dealing, run_to(dealt_standing(table, lot, dealing)))


def need_one_hand(table):
    if not table.has_one_hand():
        raise WrongGround("one hand")


def all_rings(table):
    """All rings of wants, by the number of their pairs and then in tuple order."""
    found = []
    paths = [path for person in range(table.people) for path in longer_paths(table, (), person)]
    while paths:
        found.extend([path for path in paths if is_ring(table, path)])
        paths = [longer for path in paths for longer in longer_paths(table, path, wanted_last(table, path))]
    return found


def longer_paths(table, path, person):
    """The paths with one pair of this person more, in tuple order, that could still become rings.

    A path is a row of pairs as in a ring, but for the last pair, whose dish may want anybody.
    """
    if any([person == before for before, _ in path]) or (path and person < path[0][0]):
        return []
    kinds = [kind for kind in range(len(table.kinds)) if table.wants(kind, person) is not None]
    longer = [path + ((person, kind),) for kind in kinds]
    return [pairs for pairs in longer if is_within_bounds(table, used_by(table, pairs))]


def is_ring(table, path):
    """True if the last dish of the path wants its first person, and no two people can swap at once."""
    first = path[0][0]
    if wanted_last(table, path) != first:
        return False
    return len(path) > 2 or not table.is_quick(first, path[1][0])


def wanted_last(table, path):
    """The person whom the last dish of the path wants."""
    person, kind = path[-1]
    return table.wants(kind, person)


def used_by(table, pairs):
    """How many of the pairs have each kind, a row with an entry for each kind."""
    row = [0] * len(table.kinds)
    for _, kind in pairs:
        row[kind] += 1
    return row


def passes_behind(table, ring):
    """How many passes bring the dishes of the ring to their people."""
    return sum([table.steps_to(kind, person) for person, kind in ring])

"""Single moves: why one cannot be made, where it leads, and which ones there are."""

from fullhands.errors import CannotMove
from fullhands.moves.standing import Standing


def after(standing, move):
    """The standing after this move. Raises CannotMove."""
    return after_at(standing, move, 0)


def after_at(standing, move, index):
    """The standing after the move with this index of a run. Raises CannotMove with the index."""
    reason = refusal(standing, move)
    if reason is not None:
        raise CannotMove(index, reason)
    return changed(standing, changes_of(standing.table, move), 1)


def possible(standing, *, enters=True):
    """The possible moves: enters by kind, passes by kind and step, swaps in tuple order."""
    if enters:
        yield from possible_enters(standing)
    yield from possible_passes(standing)
    yield from possible_swaps(standing)


def back(standing):
    """The back moves, as pairs of the move that is taken back and the earlier standing."""
    moves = enters_back(standing) + passes_back(standing) + swaps_back(standing)
    for move in moves:
        yield (move, changed(standing, changes_of(standing.table, move), -1))


def refusal(standing, move):
    """The reason for which the move cannot be made, or None if it can be made."""
    if move[0] == "enter":
        return enter_refusal(standing, move[1])
    if move[0] == "pass":
        return pass_refusal(standing, move[1], move[2])
    return swap_refusal(standing, move)


def enter_refusal(standing, kind):
    table = standing.table
    if not is_kind(table, kind):
        return "unknown"
    way, most = table.kinds[kind]
    if standing.out(kind) >= most:
        return "most"
    share = table.share_of(kind)
    if share is not None and share_out(standing, share) >= table.shares[share][1]:
        return "share"
    if standing.free(way[0]) == 0:
        return "hands"
    return None


def pass_refusal(standing, kind, person):
    table = standing.table
    if not is_kind(table, kind) or not is_person(table, person):
        return "unknown"
    if standing.dishes(kind, person) == 0:
        return "none"
    if standing.free(table.wants(kind, person)) == 0:
        return "hands"
    return None


def swap_refusal(standing, move):
    table = standing.table
    _, kind, person, other_kind, other = move
    if not is_kind(table, kind) or not is_kind(table, other_kind):
        return "unknown"
    if not is_person(table, person) or not is_person(table, other) or person >= other:
        return "unknown"
    if not table.is_quick(person, other):
        return "tie"
    if not holds_for(standing, kind, person, other) or not holds_for(standing, other_kind, other, person):
        return "none"
    return None


def is_kind(table, kind):
    return 0 <= kind < len(table.kinds)


def is_person(table, person):
    return 0 <= person < table.people


def share_out(standing, share):
    """How many dishes of the share's kinds are on the way together."""
    return sum([standing.out(kind) for kind in standing.table.shares[share][0]])


def holds_for(standing, kind, person, other):
    """True if the person holds a dish of this kind that wants the other person."""
    return standing.dishes(kind, person) > 0 and standing.table.wants(kind, person) == other


def changes_of(table, move):
    """What the move changes, as triples of a kind, an index on its way and the dishes that come or go there."""
    if move[0] == "enter":
        return [(move[1], 0, 1)]
    if move[0] == "pass":
        return step_changes(table, move[1], move[2])
    return step_changes(table, move[1], move[2]) + step_changes(table, move[3], move[4])


def step_changes(table, kind, person):
    step = table.steps_to(kind, person)
    return [(kind, step, -1), (kind, step + 1, 1)]


def changed(standing, changes, times):
    """The standing with these changes, taken 1 or -1 times."""
    rows = [list(row) for row in standing.places]
    for kind, step, many in changes:
        # The end of a way has no entry: what comes there is put down.
        if step < len(rows[kind]):
            rows[kind][step] += many * times
    return Standing(standing.table, rows)


def possible_enters(standing):
    kinds = range(len(standing.table.kinds))
    return [("enter", kind) for kind in kinds if enter_refusal(standing, kind) is None]


def possible_passes(standing):
    moves = []
    for kind, (way, _) in enumerate(standing.table.kinds):
        for person in way[:-1]:
            if pass_refusal(standing, kind, person) is None:
                moves.append(("pass", kind, person))
    return moves


def possible_swaps(standing):
    swaps = swaps_along_quick_ties(standing.table)
    return [move for move in swaps if swap_refusal(standing, move) is None]


def swaps_along_quick_ties(table):
    """All swaps for which some dishes could want each other over a quick tie, in tuple order."""
    swaps = []
    kinds = range(len(table.kinds))
    for person, other in table.quick:
        there = [kind for kind in kinds if table.wants(kind, person) == other]
        here = [kind for kind in kinds if table.wants(kind, other) == person]
        swaps.extend([("swap", kind, person, other_kind, other) for kind in there for other_kind in here])
    return sorted(swaps)


def enters_back(standing):
    return [("enter", kind) for kind, row in enumerate(standing.places) if row[0] > 0]


def passes_back(standing):
    moves = []
    for kind, (way, _) in enumerate(standing.table.kinds):
        for step, many in enumerate(standing.places[kind][1:]):
            # The person who passed it gets the dish again, which takes a free hand.
            if many > 0 and standing.free(way[step]) > 0:
                moves.append(("pass", kind, way[step]))
    return moves


def swaps_back(standing):
    """The swaps whose two dishes are now each held by the person who wanted it."""
    moves = []
    for move in swaps_along_quick_ties(standing.table):
        _, kind, person, other_kind, other = move
        if standing.dishes(kind, other) > 0 and standing.dishes(other_kind, person) > 0:
            moves.append(move)
    return moves

"""Claims about a standing."""

from fullhands.ground.check import need_kind, need_person
from fullhands.moves.knot import knot


def need_claim(table, claim):
    """Raise NoSuch if the claim is about a kind or a person that is not the table's."""
    if claim[0] in ("has", "lacks"):
        need_kind(table, claim[1])
        need_person(table, claim[2])
    elif claim[0] != "knot":
        need_person(table, claim[1])


def is_claimed(standing, claim):
    """True if the claim holds for the standing."""
    if claim[0] == "full":
        return standing.free(claim[1]) == 0
    if claim[0] == "free":
        return standing.free(claim[1]) > 0
    if claim[0] == "count":
        return standing.held(claim[1]) == claim[2]
    if claim[0] == "has":
        return standing.dishes(claim[1], claim[2]) > 0
    if claim[0] == "lacks":
        return standing.dishes(claim[1], claim[2]) == 0
    return len(knot(standing)) > 0

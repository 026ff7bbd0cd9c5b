"""Round tables all of whose ties are quick."""

from fullhands.dealing.deal import dealt_standing, rows_along, short_set
from fullhands.dealing.verdict import SafeVerdict, StuckVerdict, one_way
from fullhands.errors import WrongGround
from fullhands.ground.around import is_forward, is_quick_round, round_people
from fullhands.ground.check import need_kind
from fullhands.least.cheapest import cheapest_flow
from fullhands.moves.bring import run_to


def round_order(table):
    """The people along the round, from person 0 on. Raises WrongGround."""
    need_round(table)
    return round_people(table)


def goes_forward(table, kind):
    """True if the kind goes along the round as it is ordered. Raises NoSuch, WrongGround."""
    need_kind(table, kind)
    need_round(table)
    return is_forward(table, kind)


def judge_round(table):
    """A stuck verdict on all people with dishes of one direction, or a safe verdict. Raises WrongGround."""
    need_round(table)
    everybody = tuple(range(table.people))
    shorts = []
    for forward in (True, False):
        allowed = one_way(table, forward)
        # If no dish of a cheapest dealing could be taken back, one of each person's, given to the person it came from,
        # would make a cheaper one.
        dealing = rows_along(allowed, everybody, cheapest_flow(allowed, everybody))
        if dealing is not None:
            return StuckVerdict(everybody, dealing, run_to(dealt_standing(table, everybody, dealing)))
        shorts.append((everybody, short_set(allowed, everybody)))
    return SafeVerdict("round", shorts)


def need_round(table):
    if not is_quick_round(table):
        raise WrongGround("round")

"""Standings that can or cannot become empty, and standings that can or cannot be come to."""

from fullhands.errors import TooGreat
from fullhands.moves.standing import Standing
from fullhands.moves.step import after, back, possible

MOST_DISHES = 4


def clearing(standing):
    """A run of passes and swaps to the empty standing, or None if the standing is doomed. Raises TooGreat."""
    need_few_dishes(standing)
    found = led_to(standing)
    empty = Standing.empty(standing.table).places
    if empty not in found:
        return None
    return moves_from(found, empty)[::-1]


def dead_set(standing):
    """If the standing is doomed, the places of all standings that it leads to, otherwise None. Raises TooGreat."""
    need_few_dishes(standing)
    found = led_to(standing)
    if Standing.empty(standing.table).places in found:
        return None
    return sorted(found)


def coming(standing):
    """A run from the empty standing to this one that puts no dish down, or None. Raises TooGreat."""
    need_few_dishes(standing)
    found = led_from(standing)
    empty = Standing.empty(standing.table).places
    if empty not in found:
        return None
    return moves_from(found, empty)


def need_few_dishes(standing):
    if standing.total > MOST_DISHES:
        raise TooGreat("dishes")


def led_to(standing):
    """The places of all standings to which passes and swaps lead.

    Each one has the places it was reached from and the move between the two, the standing itself None.
    """
    found = {standing.places: None}
    line = [standing]
    at = 0
    while at < len(line):
        present = line[at]
        moves = list(possible(present, enters=False))
        # A copy, since the loop adds to the line that the moves were made from.
        for move in list(moves):
            later = after(present, move)
            if later.places not in found:
                found[later.places] = (present.places, move)
                line.append(later)
        at += 1
    return found


def led_from(standing):
    """The places of all standings from which moves that put no dish down lead to this one, as in led_to.

    Back moves suffice: if some run leads here, one that puts no dish down does, too.
    """
    found = {standing.places: None}
    line = [standing]
    at = 0
    while at < len(line):
        present = line[at]
        pairs = list(back(present))
        # A copy, since the loop adds to the line that the moves were made from.
        for move, earlier in list(pairs):
            if earlier.places not in found:
                found[earlier.places] = (present.places, move)
                line.append(earlier)
        at += 1
    return found


def moves_from(found, places):
    """The moves between these places and those with which the search began, beginning at these places."""
    moves = []
    link = found[places]
    while link is not None:
        moves.append(link[1])
        link = found[link[0]]
    return moves

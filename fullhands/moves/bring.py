"""Runs that bring about a standing and put no dish down."""

from fullhands.moves.step import back


def run_to(standing):
    """The moves that lead to the standing when the first back moves are made until none is possible.

    The run begins at the empty standing only if all dishes can be taken back in this way; callers see to that.
    """
    moves = []
    pairs = list(back(standing))
    while pairs:
        move, earlier = pairs[0]
        moves.append(move)
        pairs = list(back(earlier))
    return moves[::-1]

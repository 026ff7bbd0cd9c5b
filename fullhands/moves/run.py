"""Runs: moves that are made one after another, their effort and their text."""

from fullhands.errors import BadText
from fullhands.ground.words import join_words, read_numbers
from fullhands.moves.step import after_at

# How many numbers each form of a move has.
FORMS = {"enter": 1, "pass": 2, "swap": 4}


def play(standing, run):
    """The standing after the moves of the run. Raises CannotMove."""
    present = standing
    for index, move in enumerate(run):
        present = after_at(present, move, index)
    return present


def trace(standing, run):
    """The standing after each move of the run. Raises CannotMove when it comes to a move that cannot be made."""
    present = standing
    # A copy, since the caller may change a list between two standings.
    moves = tuple(run)
    for index, move in enumerate(moves):
        present = after_at(present, move, index)
        yield present


def run_effort(run):
    """One for each enter and each pass, two for each swap."""
    return sum([2 if move[0] == "swap" else 1 for move in run])


def run_text(run):
    """The text of the run, one line for each move."""
    return "\n".join([join_words(move) for move in run])


def read_run(text):
    """The run of a text, a list of moves. Raises BadText."""
    # Splitting the empty string would give one empty line, but as a run it has no line.
    if text == "":
        return []
    run = []
    for index, line in enumerate(text.split("\n")):
        move = read_move(line)
        if move is None:
            raise BadText(index + 1)
        run.append(move)
    return run


def read_move(line):
    """The move that this line writes, or None if it has none of the forms."""
    words = line.split(" ")
    if words[0] not in FORMS or len(words) - 1 != FORMS[words[0]]:
        return None
    numbers = read_numbers(words[1:])
    if numbers is None:
        return None
    return (words[0],) + tuple(numbers)

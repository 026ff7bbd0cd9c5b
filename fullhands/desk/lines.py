"""The lines that a desk is told: which forms they have, and what edits do to a table and its standing."""

from fullhands.errors import InUse
from fullhands.ground.words import read_numbers
from fullhands.moves.run import read_move
from fullhands.moves.standing import Standing

QUESTIONS = ("ask safe", "ask dishes", "ask effort", "ask knot", "ask total")
# How many numbers each edit has, except for the one that adds a kind.
EDITS = {"hands": 2, "most": 2, "quick": 2, "slow": 2, "person": 2, "drop": 1}


def read_line(line):
    """What the line says, a tuple that begins with its word, or None if it has none of the forms."""
    if line == "settle" or line in QUESTIONS:
        return tuple(line.split(" "))
    move = read_move(line)
    if move is not None:
        return move
    words = line.split(" ")
    if words[0] == "kind":
        return read_new_kind(words)
    numbers = read_numbers(words[1:])
    if words[0] not in EDITS or len(words) - 1 != EDITS[words[0]] or numbers is None:
        return None
    return (words[0],) + tuple(numbers)


def read_new_kind(words):
    """The most and the way of a line `kind M via P P ..`, or None if it has another form."""
    if len(words) < 4 or words[2] != "via":
        return None
    numbers = read_numbers(words[1:2] + words[3:])
    if numbers is None:
        return None
    return ("kind", numbers[0], tuple(numbers[1:]))


def edited(standing, edit):
    """The standing after this edit, with its new table. Raises NoSuch, BadTable, InUse."""
    table = standing.table
    word = edit[0]
    if word == "hands":
        return after_hands(standing, edit[1], edit[2])
    if word == "most":
        return after_most(standing, edit[1], edit[2])
    if word == "drop":
        return after_drop(standing, edit[1])
    if word == "kind":
        _, most, way = edit
        return Standing(table.with_kind(way, most), standing.places + ((0,) * (len(way) - 1),))
    if word == "person":
        return Standing(table.with_person(edit[1], edit[2]), standing.places)
    if word == "quick":
        return Standing(table.with_quick(edit[1], edit[2]), standing.places)
    return Standing(table.without_quick(edit[1], edit[2]), standing.places)


def after_hands(standing, person, many):
    """The standing when the person has so many hands."""
    table = standing.table.with_hands(person, many)
    if many < standing.held(person):
        raise InUse("hands")
    return Standing(table, standing.places)


def after_most(standing, kind, most):
    """The standing when the kind has this most."""
    table = standing.table.with_most(kind, most)
    if most < standing.out(kind):
        raise InUse("most")
    return Standing(table, standing.places)


def after_drop(standing, kind):
    """The standing without this kind, of which no dish may be on the way."""
    table = standing.table.without_kind(kind)
    if standing.out(kind) > 0:
        raise InUse("kind")
    return Standing(table, standing.places[:kind] + standing.places[kind + 1:])

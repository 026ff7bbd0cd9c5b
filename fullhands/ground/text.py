"""The text of a table."""

from fullhands.errors import BadText
from fullhands.ground.table import Table
from fullhands.ground.words import join_words, read_numbers, read_row

GROUPS = ("tie", "kind", "share", "quick")
JOINTS = {"kind": "via", "share": "of"}


def table_text(table):
    """The text of the table in normal form."""
    rows = [("hands",) + table.hands]
    rows.extend([("tie",) + tie for tie in table.ties])
    rows.extend([("kind", most, JOINTS["kind"]) + way for way, most in table.kinds])
    rows.extend([("share", bound, JOINTS["share"]) + kinds for kinds, bound in table.shares])
    rows.extend([("quick",) + tie for tie in table.quick])
    return "\n".join([join_words(row) for row in rows])


def read_table(text):
    """The table of a text. Raises BadText, BadTable."""
    lines = text.split("\n")
    hands = read_row(lines[0], "hands")
    if hands is None:
        raise BadText(1)
    found = {group: [] for group in GROUPS}
    reached = 0
    for index, line in enumerate(lines[1:]):
        words = line.split(" ")
        entry = read_entry(words)
        if entry is None or GROUPS.index(words[0]) < reached:
            raise BadText(index + 2)
        reached = GROUPS.index(words[0])
        found[words[0]].append(entry)
    return Table(hands, found["tie"], found["kind"], quick=found["quick"], shares=found["share"])


def read_entry(words):
    """What the words of a later line add to the data of its group, or None if they have no form."""
    if words[0] not in GROUPS:
        return None
    if words[0] in JOINTS:
        return read_bounded(words, JOINTS[words[0]])
    return read_pair(words)


def read_pair(words):
    """The pair of a line such as `tie P Q`."""
    if len(words) != 3:
        return None
    return read_numbers(words[1:])


def read_bounded(words, joint):
    """The row and its bound of a line such as `kind M via P P ..`."""
    if len(words) < 4 or words[2] != joint:
        return None
    numbers = read_numbers([words[1]] + words[3:])
    if numbers is None:
        return None
    return (numbers[1:], numbers[0])

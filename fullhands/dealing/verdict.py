"""Verdicts: certificates that a table can get stuck or is safe, whether they are right, and their text."""

from fullhands.dealing.core import kind_towards, rows_of
from fullhands.dealing.deal import is_dealing
from fullhands.dealing.lots import is_lot, is_short, lots
from fullhands.errors import BadText, CannotMove
from fullhands.ground.around import is_forward, is_quick_round
from fullhands.ground.words import join_words, read_numbers, read_row
from fullhands.moves.run import play, read_move, run_text
from fullhands.moves.standing import Standing

GROUNDS = ("tree", "web", "round")


class Verdict:
    """The base class of the two classes of verdicts. They never change."""

    def text(self):
        return "\n".join(self.lines())

    def lines(self):
        """The lines of the text; each of the two classes has its own."""
        return []


class StuckVerdict(Verdict):
    """A lot with a dealing of it, and a run that leads to it."""

    STUCK = True

    def __init__(self, lot, dealing, run):
        self.lot = tuple(lot)
        self.dealing = tuple([tuple(row) for row in dealing])
        self.run = tuple(run)

    def holds(self, table):
        if not is_lot(table, self.lot) or not is_dealing(table, self.lot, self.dealing):
            return False
        rows = rows_of(self.lot, self.dealing)
        return not has_exchange(table, rows) and leads_to(table, self.run, rows)

    def lines(self):
        deals = [join_words(("deal", person) + row) for person, row in zip(self.lot, self.dealing)]
        # The text of a run without moves would add an empty line.
        moves = [run_text(self.run)] if self.run else []
        return ["stuck", join_words(("lot",) + self.lot)] + deals + moves


class SafeVerdict(Verdict):
    """A ground, and a set for each lot that cannot be dealt."""

    STUCK = False

    def __init__(self, ground, shorts):
        self.ground = ground
        self.shorts = tuple([(tuple(lot), tuple(people)) for lot, people in shorts])

    def holds(self, table):
        if self.ground == "tree":
            return table.is_tree() and shows_short(table, lots(table, slow=True), self.shorts)
        if self.ground == "web":
            return shows_short(table, lots(table), self.shorts)
        return self.ground == "round" and shows_safe_round(table, self.shorts)

    def lines(self):
        shorts = [join_words(("short",) + lot + ("by",) + people) for lot, people in self.shorts]
        return [join_words(("safe", self.ground))] + shorts


def has_exchange(table, rows):
    """True if two people with a quick tie are dealt dishes that want each other."""
    ties = [(one, other) for one, other in table.quick if one in rows and other in rows]
    return any([wants_along(table, rows, one, other) and wants_along(table, rows, other, one) for one, other in ties])


def wants_along(table, rows, person, other):
    """True if the person is dealt a dish that wants the other one."""
    return kind_towards(table, rows[person], person, other) is not None


def leads_to(table, run, rows):
    """True if the run leads to a standing in which these people hold exactly these dishes."""
    try:
        standing = play(Standing.empty(table), run)
    except CannotMove:
        return False
    for person in rows:
        if rows[person] != tuple([standing.dishes(kind, person) for kind in range(len(table.kinds))]):
            return False
    return True


def shows_short(table, expected, shorts):
    """True if the pairs have exactly the expected lots, in this order, each with a short set."""
    if expected != [lot for lot, _ in shorts]:
        return False
    return all([is_short(table, lot, people) for lot, people in shorts])


def shows_safe_round(table, shorts):
    """True if the first pair shows that all people are short of what goes forward, the second one likewise backward."""
    if not is_quick_round(table) or len(shorts) != 2:
        return False
    everybody = tuple(range(table.people))
    for forward, (lot, people) in zip((True, False), shorts):
        if lot != everybody or not is_short(one_way(table, forward), lot, people):
            return False
    return True


def one_way(table, forward):
    """The round table in which the mosts of the kinds that go the other way are 0."""
    changed = table
    for kind in range(len(table.kinds)):
        if is_forward(table, kind) != forward:
            changed = changed.with_most(kind, 0)
    return changed


def read_verdict(text):
    """The verdict of a text. Raises BadText."""
    lines = text.split("\n")
    if lines[0] == "stuck":
        return read_stuck(lines)
    for ground in GROUNDS:
        if lines[0] == join_words(("safe", ground)):
            return SafeVerdict(ground, read_each(lines, 1, read_short))
    raise BadText(1)


def read_stuck(lines):
    """The stuck verdict of these lines, the first of which is right. Raises BadText."""
    lot = read_row(line_at(lines, 1), "lot")
    if lot is None:
        raise BadText(2)
    rows = []
    for index, person in enumerate(lot):
        row = read_row(line_at(lines, 2 + index), "deal")
        if row is None or len(row) < 2 or row[0] != person or (rows and len(row) != len(rows[0])):
            raise BadText(3 + index)
        rows.append(row)
    return StuckVerdict(lot, [row[1:] for row in rows], read_each(lines, 2 + len(lot), read_move))


def line_at(lines, index):
    """The line with this index. One that is missing counts as empty, since an empty one does not fit either."""
    return lines[index] if index < len(lines) else ""


def read_each(lines, first, reader):
    """What the reader reads from each line from this index on. Raises BadText."""
    found = []
    for index, line in enumerate(lines[first:]):
        entry = reader(line)
        if entry is None:
            raise BadText(first + index + 1)
        found.append(entry)
    return found


def read_short(line):
    """The lot and the set of a line such as `short P P .. by Q Q ..`, or None if it has another form."""
    words = line.split(" ")
    if words[0] != "short" or "by" not in words:
        return None
    middle = words.index("by")
    lot = read_numbers(words[1:middle])
    people = read_numbers(words[middle + 1:])
    if not lot or not people:
        return None
    return (lot, people)

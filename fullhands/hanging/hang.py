"""Hanging a tree at a person of another one, and taking a tree apart into its branches."""

from fullhands.errors import NotLocal, TooGreat
from fullhands.ground.check import MOST_KINDS, MOST_PEOPLE, MOST_SHARES, need_person, need_tree, reached_from
from fullhands.ground.table import Table


def hang(main, person, branch, port):
    """The tree in which the port of the branch and the person of the main tree are one.

    Raises NoSuch, WrongGround, TooGreat.
    """
    need_person(main, person)
    need_person(branch, port)
    need_tree(main)
    need_tree(branch)
    need_room(main, branch)
    others = [other for other in range(branch.people) if other != port]
    numbers = {other: main.people + at for at, other in enumerate(others)}
    numbers[port] = person
    kinds = list(main.kinds) + [(renamed(way, numbers), most) for way, most in branch.kinds]
    # The kinds of the branch come behind those of the main tree.
    shifted = {kind: len(main.kinds) + kind for kind in range(len(branch.kinds))}
    shares = list(main.shares) + [(renamed(members, shifted), bound) for members, bound in branch.shares]
    ties = list(main.ties) + [renamed(tie, numbers) for tie in branch.ties]
    quick = list(main.quick) + [renamed(tie, numbers) for tie in branch.quick]
    hands = list(main.hands) + [branch.hands[other] for other in others]
    return Table(hands, ties, kinds, quick=quick, shares=shares)


def branches(table, person):
    """The branches at the person, as triples of the branch, its port and its people in the table.

    Raises NoSuch, WrongGround, NotLocal.
    """
    need_person(table, person)
    need_tree(table)
    groups = people_of_branches(table, person)
    homes = [home_of(groups, way) for way, _ in table.kinds]
    need_local(table, homes)
    found = []
    for at, people in enumerate(groups):
        kinds = [kind for kind in range(len(homes)) if homes[kind] == at]
        found.append((part_of(table, people, kinds), people.index(person), people))
    return found


def need_room(main, branch):
    """Raise TooGreat if the two trees together are more than a table can be."""
    if main.people + branch.people - 1 > MOST_PEOPLE:
        raise TooGreat("people")
    if len(main.kinds) + len(branch.kinds) > MOST_KINDS:
        raise TooGreat("kinds")
    if len(main.shares) + len(branch.shares) > MOST_SHARES:
        raise TooGreat("shares")


def renamed(row, numbers):
    """The row with the new number of each entry."""
    return [numbers[entry] for entry in row]


def people_of_branches(table, person):
    """For each neighbour the people of their branch at this person, in ascending order."""
    ties = [tie for tie in table.ties if person not in tie]
    return [tuple(sorted(reached_from(near, ties) + [person])) for near in table.neighbours(person)]


def home_of(groups, way):
    """The index of the group that has all people of the way, or None."""
    for at, people in enumerate(groups):
        if all([member in people for member in way]):
            return at
    return None


def need_local(table, homes):
    """Raise NotLocal for the first kind without a home, or in a share with kinds that have another one."""
    for kind, home in enumerate(homes):
        if home is None:
            raise NotLocal(kind)
    for members, _ in table.shares:
        for kind in members:
            if homes[kind] != homes[members[0]]:
                raise NotLocal(kind)


def part_of(table, people, kinds):
    """The tree of these people of the table and of these kinds, whose shares have no other kinds."""
    numbers = {member: at for at, member in enumerate(people)}
    places = {kind: at for at, kind in enumerate(kinds)}
    ties = [renamed(tie, numbers) for tie in table.ties if tie[0] in numbers and tie[1] in numbers]
    quick = [renamed(tie, numbers) for tie in table.quick if tie[0] in numbers and tie[1] in numbers]
    ways = [(renamed(table.kinds[kind][0], numbers), table.kinds[kind][1]) for kind in kinds]
    shares = [(renamed(members, places), bound) for members, bound in table.shares if members[0] in places]
    return Table([table.hands[member] for member in people], ties, ways, quick=quick, shares=shares)

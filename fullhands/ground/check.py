"""The rules for the data of a table, and for what is passed in beside a table."""

from fullhands.errors import BadTable, NoSuch, WrongGround

MOST_PEOPLE = 6
MOST_HANDS = 4
MOST_KINDS = 6
MOST_SHARES = 3
MOST_BOUND = 24


def need_person(table, person):
    if not 0 <= person < table.people:
        raise NoSuch("person")


def need_kind(table, kind):
    if not 0 <= kind < len(table.kinds):
        raise NoSuch("kind")


def need_tree(table):
    if not table.is_tree():
        raise WrongGround("tree")


def pair_of(person, other):
    """The two people as a tie is kept: the lower one first."""
    return (min(person, other), max(person, other))


def check_data(hands, ties, kinds, quick, shares):
    """Raise BadTable for the first broken rule; each check relies on those before it."""
    check_hands(hands)
    check_ties(len(hands), ties)
    check_web(len(hands), ties)
    check_kinds(ties, kinds)
    check_quick(ties, quick)
    check_shares(len(kinds), shares)


def check_hands(hands):
    if not 1 <= len(hands) <= MOST_PEOPLE:
        raise BadTable("people", len(hands))
    for person, many in enumerate(hands):
        if not 1 <= many <= MOST_HANDS:
            raise BadTable("hands", person)


def check_ties(people, ties):
    earlier = []
    for index, tie in enumerate(ties):
        if not is_tie(people, tie) or pair_of(tie[0], tie[1]) in earlier:
            raise BadTable("ties", index)
        earlier.append(pair_of(tie[0], tie[1]))


def is_tie(people, tie):
    if len(tie) != 2 or tie[0] == tie[1]:
        return False
    return all([0 <= person < people for person in tie])


def check_web(people, ties):
    reached = reached_from(0, ties)
    for person in range(people):
        if person not in reached:
            raise BadTable("web", person)


def reached_from(person, ties):
    """The people who can be reached from this person along the ties, a list that begins with this person."""
    reached = [person]
    at = 0
    while at < len(reached):
        for one, other in ties:
            for near, far in ((one, other), (other, one)):
                if near == reached[at] and far not in reached:
                    reached.append(far)
        at += 1
    return reached


def check_kinds(ties, kinds):
    pairs = [pair_of(one, other) for one, other in ties]
    for index, (way, most) in enumerate(kinds):
        if index >= MOST_KINDS or not is_way(pairs, way) or not is_bound(most):
            raise BadTable("kinds", index)


def is_way(pairs, way):
    """True if a kind may have this way. An entry that is not a person has no tie to the one beside it."""
    if len(way) < 2 or len(set(way)) != len(way):
        return False
    return all([pair_of(way[at], way[at + 1]) in pairs for at in range(len(way) - 1)])


def is_bound(number):
    return 0 <= number <= MOST_BOUND


def check_quick(ties, quick):
    pairs = [pair_of(one, other) for one, other in ties]
    earlier = []
    for index, tie in enumerate(quick):
        if len(tie) != 2:
            raise BadTable("quick", index)
        pair = pair_of(tie[0], tie[1])
        if pair not in pairs or pair in earlier:
            raise BadTable("quick", index)
        earlier.append(pair)


def check_shares(kinds, shares):
    earlier = []
    for index, (members, bound) in enumerate(shares):
        if index >= MOST_SHARES or not is_membership(kinds, members, earlier) or not is_bound(bound):
            raise BadTable("shares", index)
        earlier.extend(members)


def is_membership(kinds, members, earlier):
    """True if a share may have these kinds beside the kinds of the earlier shares."""
    if len(members) == 0 or len(set(members)) != len(members):
        return False
    return all([0 <= kind < kinds and kind not in earlier for kind in members])

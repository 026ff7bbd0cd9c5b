"""Tables: people with hands, the ties between them, and the kinds of dishes with their ways."""

from fullhands.errors import NoSuch
from fullhands.ground.check import check_data, need_kind, need_person, pair_of


class Table:
    """A table, whose fields are in normal form. It never changes."""

    def __init__(self, hands, ties, kinds, *, quick=(), shares=()):
        check_data(hands, ties, kinds, quick, shares)
        self.hands = tuple(hands)
        self.ties = normal_ties(ties)
        self.kinds = tuple([(tuple(way), most) for way, most in kinds])
        self.quick = normal_ties(quick)
        self.shares = normal_shares(shares)
        self._near = near_people(len(self.hands), self.ties)
        self._steps = tuple([{person: step for step, person in enumerate(way)} for way, _ in self.kinds])
        self._share = shares_of_kinds(len(self.kinds), self.shares)

    @property
    def people(self):
        return len(self.hands)

    def neighbours(self, person):
        need_person(self, person)
        return self._near[person]

    def is_tied(self, person, other):
        need_person(self, person)
        need_person(self, other)
        return other in self._near[person]

    def is_quick(self, person, other):
        need_person(self, person)
        need_person(self, other)
        return pair_of(person, other) in self.quick

    def wants(self, kind, person):
        step = self.steps_to(kind, person)
        way = self.kinds[kind][0]
        if step is None or step == len(way) - 1:
            return None
        return way[step + 1]

    def steps_to(self, kind, person):
        need_kind(self, kind)
        need_person(self, person)
        return self._steps[kind].get(person)

    def share_of(self, kind):
        need_kind(self, kind)
        return self._share[kind]

    def is_tree(self):
        return len(self.ties) == len(self.hands) - 1

    def is_round(self):
        return len(self.hands) >= 3 and all([len(near) == 2 for near in self._near])

    def has_one_hand(self):
        return all([many == 1 for many in self.hands])

    def with_hands(self, person, many):
        need_person(self, person)
        hands = list(self.hands)
        hands[person] = many
        return Table(hands, self.ties, self.kinds, quick=self.quick, shares=self.shares)

    def with_most(self, kind, most):
        need_kind(self, kind)
        kinds = list(self.kinds)
        kinds[kind] = (kinds[kind][0], most)
        return Table(self.hands, self.ties, kinds, quick=self.quick, shares=self.shares)

    def with_quick(self, person, other):
        if not self.is_tied(person, other):
            raise NoSuch("tie")
        quick = self.quick
        if not self.is_quick(person, other):
            quick = quick + (pair_of(person, other),)
        return Table(self.hands, self.ties, self.kinds, quick=quick, shares=self.shares)

    def without_quick(self, person, other):
        if not self.is_tied(person, other):
            raise NoSuch("tie")
        quick = [tie for tie in self.quick if tie != pair_of(person, other)]
        return Table(self.hands, self.ties, self.kinds, quick=quick, shares=self.shares)

    def with_kind(self, way, most):
        kinds = self.kinds + ((way, most),)
        return Table(self.hands, self.ties, kinds, quick=self.quick, shares=self.shares)

    def without_kind(self, kind):
        need_kind(self, kind)
        kinds = self.kinds[:kind] + self.kinds[kind + 1:]
        shares = shares_without(self.shares, kind)
        return Table(self.hands, self.ties, kinds, quick=self.quick, shares=shares)

    def with_person(self, person, many):
        need_person(self, person)
        hands = self.hands + (many,)
        ties = self.ties + ((person, self.people),)
        return Table(hands, ties, self.kinds, quick=self.quick, shares=self.shares)

    def renumbered(self, order):
        if sorted(order) != list(range(self.people)):
            raise NoSuch("order")
        hands = [0] * self.people
        for person, many in enumerate(self.hands):
            hands[order[person]] = many
        kinds = [([order[member] for member in way], most) for way, most in self.kinds]
        ties = [(order[one], order[other]) for one, other in self.ties]
        quick = [(order[one], order[other]) for one, other in self.quick]
        return Table(hands, ties, kinds, quick=quick, shares=self.shares)


def normal_ties(ties):
    return tuple(sorted([pair_of(one, other) for one, other in ties]))


def normal_shares(shares):
    """Sorting by all kinds sorts by the lowest ones, since no kind is in two shares."""
    return tuple(sorted([(tuple(sorted(members)), bound) for members, bound in shares]))


def near_people(people, ties):
    """For each person the people tied to them, in ascending order."""
    near = [[] for _ in range(people)]
    for one, other in ties:
        near[one].append(other)
        near[other].append(one)
    return tuple([tuple(sorted(row)) for row in near])


def shares_of_kinds(kinds, shares):
    """For each kind the index of its share, or None."""
    found = [None] * kinds
    for index, (members, _) in enumerate(shares):
        for kind in members:
            found[kind] = index
    return tuple(found)


def shares_without(shares, kind):
    """The shares behind the removal of a kind: the kinds behind it move up."""
    kept = []
    for members, bound in shares:
        left_over = [other - 1 if other > kind else other for other in members if other != kind]
        if left_over:
            kept.append((left_over, bound))
    return kept

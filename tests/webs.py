"""Random webs: tables that need not be trees, with ways of any form."""

from fullhands.ground.table import Table


def random_ties(rule, people, more):
    """The ties of a tree, and each other pair with this likelihood, in any order and direction."""
    ties = [(rule.randrange(person), person) for person in range(1, people)]
    others = [(one, other) for other in range(people) for one in range(other) if (one, other) not in ties]
    ties += [tie for tie in others if rule.random() < more]
    rule.shuffle(ties)
    return [tie if rule.random() < 0.5 else tie[::-1] for tie in ties]


def random_walk(rule, ties, people, steps):
    """A way of at most this many steps along the ties."""
    way = [rule.randrange(people)]
    while len(way) <= steps:
        near = [b if a == way[-1] else a for a, b in ties if way[-1] in (a, b)]
        near = [person for person in near if person not in way]
        if not near:
            break
        way.append(rule.choice(near))
    return tuple(way)


def random_groups(rule, kinds, likelihood, bound):
    """Shares of some of the kinds."""
    groups, left = [], list(range(kinds))
    while left and len(groups) < 3 and rule.random() < likelihood:
        members = rule.sample(left, rule.randint(1, len(left)))
        groups.append((members, rule.randint(0, bound)))
        left = [kind for kind in left if kind not in members]
    return groups


def random_web(rule, *, people=(2, 5), hands=(1, 1), kinds=(1, 5), most=2, quick=0.3, shares=0.3, bound=4, more=0.4):
    """A table on any web whose numbers are within these ranges."""
    many = rule.randint(*people)
    ties = random_ties(rule, many, more)
    ways = [random_walk(rule, ties, many, rule.randint(1, many)) for _ in range(rule.randint(*kinds))]
    return Table([rule.randint(*hands) for _ in range(many)], ties, [(way, rule.randint(0, most)) for way in ways],
                 quick=[tie for tie in ties if rule.random() < quick],
                 shares=random_groups(rule, len(ways), shares, bound))


def random_round(rule, *, people=(3, 4), hands=(1, 2), kinds=(1, 4), most=3, shares=0.2, bound=4, mixed=True):
    """A round table all of whose ties are quick, its people seated in any order."""
    many = rule.randint(*people)
    seats = rule.sample(range(many), many)
    ties = list(zip(seats, seats[1:] + seats[:1]))
    ways = []
    turned = rule.random() < 0.5
    for _ in range(rule.randint(*kinds)):
        first = rule.randrange(many)
        line = seats[first:] + seats[:first]
        if mixed:
            turned = rule.random() < 0.5
        ways.append(tuple((line[::-1] if turned else line)[:rule.randint(2, many)]))
    return Table([rule.randint(*hands) for _ in range(many)], ties, [(way, rule.randint(0, most)) for way in ways],
                 quick=ties, shares=random_groups(rule, len(ways), shares, bound))

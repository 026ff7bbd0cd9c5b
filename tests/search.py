"""Small trees, and a search through all standings that can be come to on a table."""

import functools
import heapq
import random

from fullhands.ground.table import Table
from tests.model import Model


class Search:
    """All standings to which runs from the empty standing lead, by their places."""

    def __init__(self, table):
        self.model = Model(table)
        self.empty = self.model.empty()
        self.moves = self.moves_of(self.model)
        self.links = {}
        line = [self.empty]
        while line:
            places = line.pop()
            if places not in self.links:
                self.links[places] = [(move, self.model.after(places, move)) for move in self.moves
                                      if self.model.reason(places, move) is None]
                line.extend([later for _, later in self.links[places]])
        self.knotted = {places for places in self.links if self.model.knots(places)}

    @staticmethod
    def moves_of(model):
        """The moves of the model without the swaps that are never possible."""
        return [move for move in model.all_moves()
                if move[0] != "swap" or (move[2] < move[4] and (move[2], move[4]) in model.quick)]

    def doomed(self):
        """The standings that can be come to and from which no passes and swaps lead to the empty one."""
        earlier = {places: [] for places in self.links}
        for places, links in self.links.items():
            for move, later in links:
                if move[0] != "enter":
                    earlier[later].append(places)
        alive, line = {self.empty}, [self.empty]
        while line:
            for places in earlier[line.pop()]:
                if places not in alive:
                    alive.add(places)
                    line.append(places)
        return set(self.links) - alive

    def effort(self, most_dishes=None):
        """The least effort of a run to a knot with never more dishes on the way than that, or None."""
        best, queue = {}, [(0, self.empty)]
        while queue:
            effort, places = heapq.heappop(queue)
            if places in best:
                continue
            best[places] = effort
            if places in self.knotted:
                return effort
            for move, later in self.links[places]:
                if most_dishes is None or total(later) <= most_dishes:
                    heapq.heappush(queue, (effort + (2 if move[0] == "swap" else 1), later))
        return None

    def least_dishes(self):
        return min([total(places) for places in self.doomed()], default=None)

    def front(self):
        """The pairs of dishes and effort, found by raising the bound on the dishes one by one."""
        found = []
        for dishes in range(sum(self.model.hands) + 1):
            effort = self.effort(dishes)
            if effort is not None and (not found or effort < found[-1][1]):
                found.append((dishes, effort))
        return found


def total(places):
    return sum(map(sum, places))


def random_way(rule, ties, people):
    """The way between two different people of a tree."""
    one, other = rule.sample(range(people), 2)
    line = [(one,)]
    while True:
        way = line.pop(0)
        if way[-1] == other:
            return way
        near = [b if a == way[-1] else a for a, b in ties if way[-1] in (a, b)]
        line.extend([way + (person,) for person in near if person not in way])


def random_tree(rule, *, people=(1, 4), hands=(1, 2), kinds=(0, 5), most=3, quick=0.3, shares=0.5):
    """A tree whose numbers are within these ranges."""
    many = rule.randint(*people)
    ties = [(rule.randrange(person), person) for person in range(1, many)]
    ways = [random_way(rule, ties, many) for _ in range(rule.randint(*kinds) if many > 1 else 0)]
    groups, left = [], list(range(len(ways)))
    while left and len(groups) < 3 and rule.random() < shares:
        members = rule.sample(left, rule.randint(1, len(left)))
        groups.append((members, rule.randint(0, 4)))
        left = [kind for kind in left if kind not in members]
    return Table([rule.randint(*hands) for _ in range(many)], ties, [(way, rule.randint(0, most)) for way in ways],
                 quick=[tie for tie in ties if rule.random() < quick], shares=groups)


def small_trees():
    """Trees with few enough standings to search through all of them, about as many stuck ones as safe ones."""
    rule = random.Random(20)
    row = [(0, 1), (1, 2)]
    star = [(0, 1), (0, 2), (0, 3)]
    around = [((1, 0, 2), 2), ((2, 0, 3), 2), ((3, 0, 1), 2)]
    yield from [
        Table([1], [], []),
        Table([4], [], []),
        Table([1, 1], [(0, 1)], []),
        Table([1, 1], [(0, 1)], [((0, 1), 1), ((1, 0), 1)]),
        Table([1, 1], [(0, 1)], [((0, 1), 1), ((1, 0), 1)], quick=[(0, 1)]),
        Table([2, 1], [(0, 1)], [((0, 1), 2), ((1, 0), 1)], shares=[((0, 1), 2)]),
        Table([2, 1], [(0, 1)], [((0, 1), 2), ((1, 0), 1)], shares=[((0, 1), 3)]),
        Table([1, 2, 1], row, [((0, 1, 2), 2), ((2, 1, 0), 1)]),
        Table([1, 2, 1], row, [((0, 1, 2), 2), ((2, 1, 0), 1)], quick=[(1, 2)]),
        Table([2, 1, 1, 1], star, around),
        Table([2, 1, 1, 1], star, around, quick=[(0, 1)]),
        Table([2, 1, 1, 1], star, around, quick=star),
        Table([3, 1, 1, 1], star, around),
        Table([2, 1, 1], row, [((0, 1), 2), ((1, 0), 1), ((1, 2), 1), ((2, 1), 1)],
              quick=[(1, 2)], shares=[((0, 1), 3)]),
        # Safe, with a standing that cannot be come to: person 0 holds the dishes of kind 1, and person 1 the other one.
        Table([2, 1, 1, 1], [(0, 1), (0, 2), (1, 3)], [((0, 1, 3), 1), ((1, 0, 2), 2)]),
        # Few dishes by a long way, or many by a short one.
        Table([1, 1, 1, 1], [(0, 1), (1, 2), (2, 3)],
              [((2, 3), 0), ((0, 1, 2), 1), ((3, 2, 1), 1), ((0, 1), 0), ((1, 0), 1)]),
        Table([2, 1, 1, 1], [(0, 1), (1, 2), (2, 3)],
              [((0, 1), 2), ((1, 0), 1), ((0, 1, 2, 3), 1), ((3, 2, 1), 1)]),
    ]
    for _ in range(60):
        yield random_tree(rule)
    for _ in range(100):
        yield random_tree(rule, people=(2, 4), kinds=(3, 6), quick=0.1, shares=0.2)
    for _ in range(60):
        yield random_tree(rule, people=(3, 5), kinds=(4, 6), most=2, quick=0.1, shares=0.1)
    for _ in range(40):
        yield random_tree(rule, people=(2, 3), hands=(1, 3), kinds=(3, 5), quick=0, shares=0.1)


@functools.cache
def searched():
    """The small trees, each with the search through its standings."""
    return [(table, Search(table)) for table in small_trees()]

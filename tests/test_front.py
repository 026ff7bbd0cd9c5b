import random
import unittest

from fullhands.ground.table import Table
from fullhands.least.dishes import least_dishes
from fullhands.least.effort import least_effort
from fullhands.least.front import front, stuck_within
from tests.model import Model, dealing_tables
from tests.search import random_tree, searched
from tests.support import fields, refused
from tests.test_judge import NO_TREE, RING

FAR = 10 ** 40


def long_row():
    """A row with a front of three pairs: the fewer hands a lot has, the farther its dishes come."""
    kinds = [((4, 3), 3), ((1, 2), 3), ((0, 1, 2, 3, 4, 5), 3), ((4, 3, 2, 1), 4), ((5, 4, 3, 2), 4)]
    return Table([2, 3, 2, 2, 2, 1], [(at, at + 1) for at in range(5)], kinds)


def star():
    kinds = [((1, 0, 2), 2), ((2, 0, 3), 2), ((3, 0, 1), 2)]
    return Table([2, 1, 1, 1], [(0, 1), (0, 2), (0, 3)], kinds)


def front_of(table):
    """The front by the last sentence of point 32, from all dealings of all slow lots."""
    model = Model(table)
    pairs = set()
    for lot in model.lots(slow=True):
        for dealing in model.dealings(lot):
            cost = sum(many * (1 + model.kinds[kind][0].index(person)) for person, row in zip(lot, dealing)
                       for kind, many in enumerate(row) if many)
            pairs.add((sum(model.hands[person] for person in lot), cost))
    return sorted(pair for pair in pairs
                  if not any(other != pair and other[0] <= pair[0] and other[1] <= pair[1] for other in pairs))


class Front(unittest.TestCase):
    def test_against_a_search_through_all_standings(self):
        lengths = set()
        for table, search in searched():
            expected = search.front()
            self.assertEqual(front(table), expected, fields(table))
            lengths.add(len(expected))
        self.assertEqual(lengths, {0, 1, 2})

    def test_all_dealings_of_greater_trees(self):
        rule = random.Random(32)
        lengths = []
        for _ in range(250):
            table = random_tree(rule, people=(4, 6), hands=(1, 2), kinds=(5, 6), most=3, quick=0.05, shares=0.1)
            expected = front_of(table)
            self.assertEqual(front(table), expected, fields(table))
            lengths.append(len(expected))
        self.assertGreater(lengths.count(2), 3)

    def test_the_ends_of_the_front(self):
        for table, _ in searched():
            found = front(table)
            if found:
                self.assertEqual((found[0][0], found[-1][1]), (least_dishes(table), least_effort(table)))

    def test_three_pairs(self):
        self.assertEqual(front(long_row()), [(3, 11), (4, 10), (5, 9)])
        self.assertEqual(front_of(long_row()), [(3, 11), (4, 10), (5, 9)])

    def test_a_list_of_tuples_that_is_not_shared(self):
        found = front(star())
        self.assertEqual([type(pair) for pair in found], [tuple])
        self.assertIsInstance(found, list)
        found.clear()
        self.assertEqual(front(star()), [(3, 5)])

    def test_safe_trees(self):
        for table in (Table([1], [], []), star().with_most(0, 0).with_most(1, 0), Table([1, 1], [(0, 1)], [])):
            self.assertEqual(front(table), [])
            self.assertIs(stuck_within(table), False)
            self.assertIs(stuck_within(table, most_dishes=FAR, most_effort=FAR), False)

    def test_wrong_ground(self):
        for table in dealing_tables() + [Table([1] * 3, RING, [])]:
            if not table.is_tree():
                self.assertEqual(refused(front, table), NO_TREE)
                self.assertEqual(refused(stuck_within, table), NO_TREE)
                self.assertEqual(refused(stuck_within, table, most_dishes=-1), NO_TREE)

    def test_examples(self):
        self.assertEqual((least_dishes(star()), front(star()), stuck_within(star(), most_effort=4)),
                         (3, [(3, 5)], False))
        self.assertEqual(front(Table([1, 4, 1], [(0, 1), (1, 2)], [((0, 1, 2), 3), ((2, 1, 0), 3)])), [(6, 10)])


class StuckWithin(unittest.TestCase):
    def check(self, table, pairs):
        numbers = [-FAR, -1, 0, 1] + [number + more for pair in pairs for number in pair for more in (-1, 0, 1)] + [FAR]
        found = set()
        for dishes in numbers + [None]:
            for effort in numbers + [None]:
                expected = any((dishes is None or pair[0] <= dishes) and (effort is None or pair[1] <= effort)
                               for pair in pairs)
                found.add(expected)
                self.assertIs(stuck_within(table, most_dishes=dishes, most_effort=effort), expected)
        for number in numbers:
            self.assertIs(stuck_within(table, most_dishes=number), any(pair[0] <= number for pair in pairs))
            self.assertIs(stuck_within(table, most_effort=number), any(pair[1] <= number for pair in pairs))
        self.assertIs(stuck_within(table), bool(pairs))
        return found

    def test_against_a_search_through_all_standings(self):
        chosen = [(table, search.front()) for table, search in searched()]
        for table, pairs in [pair for pair in chosen if len(pair[1]) > 1] + chosen[::12]:
            self.assertEqual(self.check(table, pairs), {True, False} if pairs else {False})

    def test_three_pairs(self):
        self.check(long_row(), [(3, 11), (4, 10), (5, 9)])

    def test_by_keyword_only(self):
        with self.assertRaises(TypeError):
            stuck_within(star(), 3)

import copy
import itertools
import random
import unittest

from fullhands.remedies.blocker import blocker, least_sets
from tests.support import frozen, mixed, refused, thawed
from tests.test_program import too_great

FAR = 10 ** 40


def ordered(sets):
    return sorted([tuple(sorted(members)) for members in sets], key=lambda row: (len(row), row))


def least_of(sets):
    rows = {frozenset(members) for members in sets}
    return ordered([row for row in rows if not any(other < row for other in rows)])


def blocker_of(sets):
    numbers = sorted({number for members in sets for number in members})
    every = [set(some) for many in range(len(numbers) + 1) for some in itertools.combinations(numbers, many)]
    return least_of([some for some in every if all(some & set(members) for members in sets)])


def families():
    """Rows of sets in any order, with small and with far too great numbers."""
    rule = random.Random(37)
    for turn in range(250):
        numbers = rule.sample(range(9), rule.randint(1, 7))
        if turn % 3 == 0:
            numbers = [number * FAR for number in numbers]
        sets = [tuple(rule.sample(numbers, rule.randint(turn % 7 > 0, len(numbers))))
                for _ in range(rule.randint(0, 7))]
        yield sets + sets[:1] * (turn % 2)


class LeastSets(unittest.TestCase):
    def test_against_all_pairs(self):
        lengths = set()
        for sets in families():
            found = least_sets(sets)
            self.assertEqual((found, frozen(found)), (least_of(sets), tuple(found)))
            lengths.add(len(found))
        self.assertLessEqual({0, 1, 2, 3, 4}, lengths)

    def test_order(self):
        self.assertEqual(least_sets([(9, 3), (2, 8), (4,), (1, 5, 7), (0, 6)]),
                         [(4,), (0, 6), (2, 8), (3, 9), (1, 5, 7)])
        self.assertEqual(least_sets([(1, 0, 2), (12, 11)]), [(11, 12), (0, 1, 2)])

    def test_subsets(self):
        self.assertEqual(least_sets([(0, 1, 2), (2, 1), (1, 2, 3), (3,), (3, 0)]), [(3,), (1, 2)])
        self.assertEqual(least_sets([(2, 1), (1, 2), (1, 2)]), [(1, 2)])

    def test_no_set_and_the_empty_set(self):
        self.assertEqual(least_sets([]), [])
        self.assertEqual(least_sets([()]), [()])
        self.assertEqual(least_sets([(3,), (), (1, 2), []]), [()])

    def test_many_numbers(self):
        sets = [(number, number + 1) for number in range(40)]
        self.assertEqual(least_sets(sets[::-1] + [tuple(range(40))]), sets)
        self.assertEqual(least_sets([(FAR + 2, FAR), (FAR,), (0, FAR + 1)]), [(FAR,), (0, FAR + 1)])

    def test_forms(self):
        sets = [(2, 1), (3,), (1, 3, 2)]
        for call in (least_sets, blocker):
            for form in (frozen, thawed, mixed, lambda rows: mixed(rows, 1)):
                given = form(sets)
                before = copy.deepcopy(given)
                found = call(given)
                self.assertEqual(given, before)
                self.assertIsInstance(found, list)
                self.assertEqual(found, {least_sets: [(3,), (1, 2)], blocker: [(1, 3), (2, 3)]}[call])
                found.clear()
                self.assertEqual(len(call(given)), 2)


class Blocker(unittest.TestCase):
    def test_against_all_sets(self):
        lengths = set()
        for sets in families():
            found = blocker(sets)
            self.assertEqual((found, frozen(found)), (blocker_of(sets), tuple(found)), sets)
            lengths.add(len(found))
        self.assertLessEqual({0, 1, 2, 3, 4, 5}, lengths)

    def test_of_the_blocker(self):
        for sets in families():
            self.assertEqual(blocker(blocker(sets)), least_sets(sets))

    def test_order_of_sets(self):
        sets = [(0, 1), (2, 1), (3, 0), (4, 5, 2)]
        for order in itertools.permutations(sets):
            self.assertEqual(blocker(order), blocker(sets))
            self.assertEqual(blocker([row[::-1] for row in order]), blocker(sets))

    def test_no_set_and_the_empty_set(self):
        self.assertEqual(blocker([]), [()])
        self.assertEqual(blocker([()]), [])
        self.assertEqual(blocker([(1,), (), (2, 3)]), [])
        self.assertEqual(blocker([[], [1]]), [])

    def test_single_sets(self):
        self.assertEqual(blocker([(3, 1, 2)]), [(1,), (2,), (3,)])
        self.assertEqual(blocker([(3,), (1,), (2,)]), [(1, 2, 3)])
        self.assertEqual(blocker([(FAR,), (FAR - 1,)]), [(FAR - 1, FAR)])

    def test_eight_numbers(self):
        pairs = [(0, 1), (2, 3), (4, 5), (6, 7)]
        expected = ordered(itertools.product(*pairs))
        self.assertEqual(blocker(pairs), expected)
        self.assertEqual(blocker(expected), pairs)
        every = list(itertools.combinations(range(8), 3))
        self.assertEqual(blocker(every), list(itertools.combinations(range(8), 6)))

    def test_nine_numbers(self):
        for sets in ([tuple(range(9))], [(number,) for number in range(9)], [tuple(range(8)), (FAR,)],
                     [(0,), tuple(range(9))], [(), tuple(range(9))], [(), tuple(range(5)), tuple(range(5, 9))],
                     [tuple(range(20))], [(number * FAR,) for number in range(9)]):
            for form in (frozen, thawed):
                self.assertEqual(refused(blocker, form(sets)), too_great("numbers"))
            self.assertIsNone(refused(least_sets, sets))
        self.assertIsNone(refused(blocker, [tuple(range(8))] * 3 + [(7, 0)]))
        self.assertIsNone(refused(blocker, [(number * FAR,) for number in range(8)]))

    def test_example(self):
        sets = [(0, 1), (1, 2), (2, 1, 0)]
        self.assertEqual((least_sets(sets), blocker(sets), blocker(blocker(sets))),
                         ([(0, 1), (1, 2)], [(1,), (0, 2)], [(0, 1), (1, 2)]))

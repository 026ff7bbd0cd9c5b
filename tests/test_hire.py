import itertools
import random
import unittest

from fullhands.dealing.judge import judge
from fullhands.ground.table import Table
from fullhands.remedies.hire import cheapest_hands, least_hands
from tests.model import Model
from tests.search import random_tree
from tests.support import fields, refused
from tests.test_danger import bad_vector
from tests.test_judge import NO_TREE, RING
from tests.test_program import too_great

FAR = 10 ** 40
ROW = [(0, 1), (1, 2)]
PAIR = [((0, 1), 1), ((1, 0), 1)]


def trees():
    rule = random.Random(40)
    yield Table([1], [], [])
    yield Table([3], [], [])
    for turn in range(60):
        yield random_tree(rule, people=(2, 3), hands=(1, 3), kinds=(2, 6), most=4, quick=0.15,
                          shares=0.4 if turn % 2 else 0)
    for _ in range(6):
        yield random_tree(rule, people=(4, 4), hands=(1, 2), kinds=(5, 6), most=3, quick=0.1, shares=0.1)


def with_all(table, row):
    return Table(row, table.ties, table.kinds, quick=table.quick, shares=table.shares)


def safe_rows(table):
    """All rows of hands with which the tree is safe, in tuple order."""
    rows = itertools.product(range(1, 5), repeat=table.people)
    return [row for row in rows if not judge(with_all(table, row)).STUCK]


class LeastHands(unittest.TestCase):
    def test_against_all_rows(self):
        lengths = set()
        for table in trees():
            safe = safe_rows(table)
            least = [row for row in safe if not any(row[:at] + (many - 1,) + row[at + 1:] in safe
                                                    for at, many in enumerate(row) if many > 1)]
            found = least_hands(table)
            self.assertEqual(found, least, fields(table))
            self.assertTrue(all(isinstance(row, tuple) for row in found))
            lengths.add(len(found))
        self.assertLessEqual({0, 1, 2, 3}, lengths)

    def test_against_all_dealings(self):
        for table in list(trees())[:20]:
            safe = set(safe_rows(table))
            for row in itertools.product(range(1, 4), repeat=table.people):
                model = Model(with_all(table, row))
                self.assertEqual(row not in safe, any(model.dealings(lot) for lot in model.lots(slow=True)))

    def test_no_such_row(self):
        """With 24 dishes each way no number of hands helps."""
        table = Table([1, 1], [(0, 1)], [((0, 1), 24), ((1, 0), 24)])
        self.assertEqual(least_hands(table), [])
        self.assertIsNone(cheapest_hands(table, (0, 0)))
        self.assertEqual(least_hands(table.with_most(1, 3)), [(1, 4)])
        self.assertEqual(least_hands(table.with_most(1, 4)), [])

    def test_the_hands_of_the_tree_play_no_part(self):
        for hands in itertools.product((1, 2, 4), repeat=2):
            table = Table(hands, [(0, 1)], PAIR)
            self.assertEqual(least_hands(table), [(1, 2), (2, 1)])

    def test_safe_with_all_hands(self):
        for table in (Table([4, 4], [(0, 1)], []), Table([2, 3], [(0, 1)], PAIR, quick=[(0, 1)])):
            self.assertEqual(least_hands(table), [(1, 1)])
        self.assertEqual(least_hands(Table([4], [], [])), [(1,)])

    def test_what_is_returned_is_not_shared(self):
        table = Table([1, 1], [(0, 1)], PAIR)
        before = fields(table)
        least_hands(table).clear()
        self.assertEqual(least_hands(table), [(1, 2), (2, 1)])
        self.assertEqual(fields(table), before)


class CheapestHands(unittest.TestCase):
    def test_against_all_rows(self):
        rule = random.Random(41)
        found = set()
        for table in trees():
            above = [row for row in safe_rows(table) if all(map(int.__ge__, row, table.hands))]
            for choice in ((0,), (1,), (0, 1), (1, 2, 3), (0, 5, FAR, FAR + 1)):
                prices = [rule.choice(choice) for _ in table.hands]
                before = list(prices)
                costs = [(sum((many - own) * price for many, own, price in zip(row, table.hands, prices)), row)
                         for row in above]
                expected = min(costs, default=None)
                answer = cheapest_hands(table, prices)
                self.assertEqual(answer, expected, (fields(table), prices))
                self.assertEqual(cheapest_hands(table, tuple(prices)), expected)
                self.assertEqual(prices, before)
                if answer is None:
                    found.add("none")
                else:
                    self.assertEqual((type(answer), type(answer[1])), (tuple, tuple))
                    found.update(["ties"] * ([cost for cost, _ in costs].count(answer[0]) > 1))
                    found.add("own" if answer[1] == table.hands else "more")
        self.assertEqual(found, {"none", "ties", "own", "more"})

    def test_a_safe_tree_keeps_its_hands(self):
        table = Table([3, 2], [(0, 1)], PAIR)
        for prices in ((0, 0), (1, 0), (FAR, FAR)):
            self.assertEqual(cheapest_hands(table, prices), (0, (3, 2)))
        self.assertEqual(cheapest_hands(Table([2], [], []), [7]), (0, (2,)))

    def test_prices(self):
        table = Table([1, 1], [(0, 1)], [((0, 1), 2), ((1, 0), 2)])
        self.assertEqual(cheapest_hands(table, (1, 1)), (2, (1, 3)))
        self.assertEqual(cheapest_hands(table, (1, 2)), (2, (3, 1)))
        self.assertEqual(cheapest_hands(table, (0, 0)), (0, (1, 3)))
        self.assertEqual(cheapest_hands(table, (FAR, FAR)), (2 * FAR, (1, 3)))
        self.assertEqual(cheapest_hands(table.with_hands(1, 2), (2, 3)), (3, (1, 3)))
        self.assertEqual(cheapest_hands(table.with_hands(1, 2), (1, 3)), (2, (3, 2)))

    def test_bad_prices(self):
        for hands in ([1, 1], [4, 4]):
            table = Table(hands, [(0, 1)], PAIR)
            for prices in ((), (1,), (1, 1, 1), (-1, 1), (1, -1), (0, -FAR), (1, 1, -1)):
                self.assertEqual(refused(cheapest_hands, table, prices), bad_vector(0))
                self.assertEqual(refused(cheapest_hands, table, list(prices)), bad_vector(0))


class Errors(unittest.TestCase):
    def test_wrong_ground(self):
        for ties, many in ((RING, 3), (RING + [(0, 3), (3, 4)], 5), (RING + [(0, 3), (3, 4), (4, 5)], 6)):
            table = Table([1] * many, ties, PAIR)
            self.assertEqual(refused(least_hands, table), NO_TREE)
            for prices in ((), (1,) * many, (-1,) * many):
                self.assertEqual(refused(cheapest_hands, table, prices), NO_TREE)

    def test_too_many_people(self):
        for many in (5, 6):
            for kinds in ([], PAIR):
                table = Table([1] * many, [(0, person) for person in range(1, many)], kinds)
                self.assertEqual(refused(least_hands, table), too_great("people"))
                for prices in ((), (1,) * many, (-1,) * many):
                    self.assertEqual(refused(cheapest_hands, table, prices), too_great("people"))
        table = Table([1] * 4, [(0, person) for person in range(1, 4)], PAIR)
        self.assertIsNone(refused(least_hands, table))
        self.assertIsNone(refused(cheapest_hands, table, (1,) * 4))

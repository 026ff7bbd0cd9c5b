import copy
import itertools
import random
import unittest

from fullhands.bounds.danger import Danger
from fullhands.bounds.vectors import alike_bounds, danger_of, stuck_with
from fullhands.dealing.judge import judge
from fullhands.ground.table import Table
from fullhands.least.dishes import least_dishes
from fullhands.least.front import stuck_within
from tests.model import Model
from tests.search import random_tree
from tests.support import bad_table, fields, refused
from tests.test_danger import bad_vector, least_of
from tests.test_judge import NO_TREE, RING
from tests.test_program import too_great

FAR = 10 ** 40
ROW = [(0, 1), (1, 2)]


def few_trees(seed=36, many=60):
    """Trees with at most 4 kinds and 8 hands, whose mosts and shares often bind."""
    rule = random.Random(seed)
    while many:
        table = random_tree(rule, people=(1, 5), hands=(1, 3), kinds=(1, 4), most=3)
        if sum(table.hands) <= 8:
            many -= 1
            yield table


def wide(table):
    """The tree without shares and with the greatest mosts."""
    return Table(table.hands, table.ties, [(way, 24) for way, _ in table.kinds], quick=table.quick)


def uses_of_dealings(table):
    model = Model(wide(table))
    return [tuple(map(sum, zip(*rows))) for lot in model.lots(slow=True) for rows in model.dealings(lot)]


class DangerOf(unittest.TestCase):
    def test_against_all_dealings(self):
        lengths = set()
        for table in few_trees():
            before = fields(table)
            found = danger_of(table)
            self.assertEqual(fields(table), before)
            self.assertIsInstance(found, Danger)
            self.assertEqual(found.size, len(table.kinds))
            self.assertEqual(list(found), least_of(uses_of_dealings(table)), fields(table))
            lengths.add(len(found))
        self.assertLessEqual({0, 1, 2, 3, 6}, lengths)

    def test_against_judge(self):
        """A row of mosts is in the danger set exactly if the tree with these mosts and no shares can get stuck."""
        answers = set()
        for table in few_trees(many=40):
            danger = danger_of(table)
            for mosts in itertools.product(*[(0, 1, 2, 5)] * len(table.kinds)):
                stuck = judge(with_mosts(table, mosts)).STUCK
                answers.add(stuck)
                self.assertIs(mosts in danger, stuck)
        self.assertEqual(answers, {True, False})

    def test_without_kinds_or_lots(self):
        self.assertEqual((danger_of(Table([1], [], [])).size, list(danger_of(Table([1], [], [])))), (0, []))
        pair = Table([1, 1], [(0, 1)], [((0, 1), 1), ((1, 0), 1)], quick=[(0, 1)])
        self.assertEqual((danger_of(pair).size, list(danger_of(pair))), (2, []))
        self.assertEqual(list(danger_of(pair.without_quick(0, 1))), [(1, 1)])

    def test_the_mosts_of_the_tree_play_no_part(self):
        for most in (0, 1, 24):
            table = Table([2, 1], [(0, 1)], [((0, 1), most), ((1, 0), most)], shares=[((0, 1), 0)])
            self.assertEqual(list(danger_of(table)), [(2, 1)])

    def test_eight_hands_and_four_kinds(self):
        row = (0, 1, 2, 3)
        table = Table([2] * 4, list(zip(row, row[1:])), [(row, 1), (row[::-1], 1), ((1, 2, 3), 1), ((2, 1, 0), 1)])
        self.assertEqual(list(danger_of(table)), least_of(uses_of_dealings(table)))
        table = Table([4, 4], [(0, 1)], [((0, 1), 1), ((0, 1), 1), ((1, 0), 1), ((1, 0), 1)])
        expected = [(one, 4 - one, other, 4 - other) for one in range(5) for other in range(5)]
        self.assertEqual(list(danger_of(table)), expected)


def with_mosts(table, mosts, shares=()):
    kinds = [(way, most) for (way, _), most in zip(table.kinds, mosts)]
    return Table(table.hands, table.ties, kinds, quick=table.quick, shares=shares)


class StuckWith(unittest.TestCase):
    def test_against_judge(self):
        answers = set()
        rule = random.Random(40)
        for table in few_trees(many=60):
            for _ in range(12):
                mosts = tuple(rule.randint(0, 4) for _ in table.kinds)
                left, shares = list(range(len(mosts))), []
                while left and rule.random() < 0.6 and len(shares) < 3:
                    members = rule.sample(left, rule.randint(1, len(left)))
                    shares.append((members, rule.randint(0, 5)))
                    left = [kind for kind in left if kind not in members]
                built = with_mosts(table, mosts, shares)
                stuck = judge(built).STUCK
                answers.add((stuck, bool(shares)))
                for form in (list, tuple):
                    self.assertIs(stuck_with(table, form(mosts), shares=form(shares)), stuck)
                    self.assertIs(stuck_with(table, form(mosts), shares=form(shares), at_once=None), stuck)
                self.assertIs(stuck_with(table, mosts), judge(with_mosts(table, mosts)).STUCK)
                least = least_dishes(built)
                for at_once in list(range(9)) + [FAR]:
                    found = stuck_with(table, mosts, shares=shares, at_once=at_once)
                    self.assertIs(found, least is not None and least <= at_once)
                    self.assertIs(found, stuck_within(built, most_dishes=at_once))
        self.assertEqual(len(answers), 4)

    def test_the_bounds_of_the_tree_play_no_part(self):
        table = Table([1, 1], [(0, 1)], [((0, 1), 0), ((1, 0), 0)], shares=[((0, 1), 0)])
        self.assertIs(stuck_with(table, (1, 1)), True)
        self.assertIs(stuck_with(table, (1, 1), shares=[((0, 1), 2)]), True)
        self.assertIs(stuck_with(table, (1, 1), shares=[((0, 1), 1)]), False)
        self.assertIs(stuck_with(table, (1, 1), shares=[((0,), 1), ((1,), 1)]), True)
        self.assertIs(stuck_with(table, (1, 0)), False)
        self.assertIs(stuck_with(table, (24, 24)), True)

    def test_at_once(self):
        table = Table([1, 1], [(0, 1)], [((0, 1), 0), ((1, 0), 0)])
        self.assertEqual([stuck_with(table, (1, 1), at_once=many) for many in (0, 1, 2, 3, None)],
                         [False, False, True, True, True])

    def test_quick_ties_count(self):
        table = Table([1, 1], [(0, 1)], [((0, 1), 1), ((1, 0), 1)], quick=[(0, 1)])
        self.assertIs(stuck_with(table, (9, 9)), False)

    def test_arguments_stay_as_they_are(self):
        table = Table([1, 1], [(0, 1)], [((0, 1), 0), ((1, 0), 0)])
        mosts, shares = [1, 1], [[[1, 0], 2]]
        before = copy.deepcopy((mosts, shares))
        self.assertIs(stuck_with(table, mosts, shares=shares, at_once=2), True)
        self.assertEqual((mosts, shares), before)
        self.assertEqual(table.kinds, (((0, 1), 0), ((1, 0), 0)))

    def test_errors(self):
        table = Table([1, 1], [(0, 1)], [((0, 1), 0), ((1, 0), 0)])
        for mosts in ((), (1,), (1, 1, 1), (25,), (-1, 1, 1)):
            for shares in ((), [((), 0)], [((0, 9), 99)]):
                self.assertEqual(refused(stuck_with, table, mosts, shares=shares), bad_vector(0))
        for mosts, index in (((25, 1), 0), ((1, 25), 1), ((-1, -1), 0), ((0, -1), 1), ((24, FAR), 1)):
            for shares in ((), [((), 0)], [((0, 1), 99)]):
                self.assertEqual(refused(stuck_with, table, mosts, shares=shares), bad_table("kinds", index))
        for shares, index in (([((), 0)], 0), ([((0,), 1), ((0,), 1)], 1), ([((2,), 1)], 0), ([((0,), 25)], 0),
                              ([((0,), 1), ((1,), -1)], 1), ([((0, 0), 1)], 0)):
            for at_once in (None, 0, 9):
                self.assertEqual(refused(stuck_with, table, (1, 1), shares=shares, at_once=at_once),
                                 bad_table("shares", index))

    def test_by_keyword_only(self):
        with self.assertRaises(TypeError):
            stuck_with(Table([1], [], []), (), ())


class AlikeBounds(unittest.TestCase):
    def test_against_the_mosts(self):
        """The parting row is one with which exactly one of the two trees can get stuck; none has a lesser sum."""
        found = set()
        trees = [table for table in few_trees(seed=41, many=120) if 1 <= len(table.kinds) <= 2]
        for one, other in list(zip(trees, trees[1:])) + list(zip(trees, trees[3:])):
            if len(one.kinds) == len(other.kinds):
                rows = [row for row in itertools.product(range(9), repeat=len(one.kinds))
                        if judge(with_mosts(one, row)).STUCK != judge(with_mosts(other, row)).STUCK]
                expected = min(rows, key=lambda row: (sum(row), row), default=None)
                self.assertEqual(alike_bounds(one, other), expected)
                self.assertEqual(alike_bounds(other, one), expected)
                found.add(expected is None)
        self.assertEqual(found, {True, False})

    def test_alike(self):
        pair = Table([1, 1], [(0, 1)], [((0, 1), 1), ((1, 0), 1)])
        row = Table([1, 1, 1], ROW, [((1, 2), 5), ((2, 1, 0), 0)], shares=[((0,), 0)])
        self.assertIsNone(alike_bounds(pair, row))
        self.assertIsNone(alike_bounds(pair, pair))
        self.assertEqual(alike_bounds(pair, pair.with_hands(0, 2)), (1, 1))
        self.assertEqual(alike_bounds(pair.with_quick(0, 1), pair.with_hands(0, 2)), (2, 1))

    def test_no_kinds(self):
        self.assertIsNone(alike_bounds(Table([1], [], []), Table([2, 2], [(0, 1)], [])))


class Errors(unittest.TestCase):
    def test_what_is_too_great(self):
        kinds = [((0, 1), 1), ((1, 0), 1)]
        good = Table([4, 4], [(0, 1)], kinds * 2)
        many_kinds = Table([4, 4], [(0, 1)], kinds * 2 + kinds[:1])
        many_hands = Table([4, 4, 1], ROW, kinds * 2)
        both = Table([4, 4, 1], ROW, kinds * 3)
        ring = Table([4, 4, 4], RING, kinds * 3)
        self.assertIsNone(refused(danger_of, good))
        self.assertIsNone(refused(stuck_with, good, (1,) * 4))
        for table, error in ((many_kinds, too_great("kinds")), (many_hands, too_great("hands")),
                             (both, too_great("kinds")), (ring, NO_TREE), (Table([1, 1, 1], RING, []), NO_TREE)):
            self.assertEqual(refused(danger_of, table), error)
            for mosts in ((), (1,) * 4, (99,) * len(table.kinds)):
                self.assertEqual(refused(stuck_with, table, mosts), error)
                self.assertEqual(refused(stuck_with, table, mosts, shares=[((), 0)]), error)
            self.assertEqual(refused(alike_bounds, table, good), error)
            self.assertEqual(refused(alike_bounds, good, table), error)
            self.assertEqual(refused(alike_bounds, table, table), error)
        # All errors of the first table come first.
        self.assertEqual(refused(alike_bounds, many_hands, ring), too_great("hands"))
        self.assertEqual(refused(alike_bounds, many_kinds, ring), too_great("kinds"))
        self.assertEqual(refused(alike_bounds, ring, many_kinds), NO_TREE)
        self.assertEqual(refused(alike_bounds, many_hands, many_kinds), too_great("hands"))

    def test_numbers_of_kinds(self):
        kinds = [((0, 1), 1), ((1, 0), 1)]
        trees = [Table([1, 1], [(0, 1)], (kinds * 2)[:many]) for many in range(5)]
        for one, other in itertools.permutations(trees, 2):
            self.assertEqual(refused(alike_bounds, one, other), bad_vector(0))
        self.assertEqual(refused(alike_bounds, trees[1], Table([1, 1, 1], RING, kinds)), NO_TREE)
        self.assertEqual(refused(alike_bounds, trees[1], Table([1, 1], [(0, 1)], kinds * 3)), too_great("kinds"))

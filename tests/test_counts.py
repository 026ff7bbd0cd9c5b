import copy
import random
import unittest

from fullhands.dealing.lots import lots
from fullhands.ground.table import Table
from fullhands.least.counts import count_dealings, dealing_at, dealings, index_of
from tests.model import Model, each_lot
from tests.search import random_tree
from tests.support import fields, frozen, mixed, no_such, refused, thawed
from tests.test_deal import BAD_DEALING, nearby
from tests.test_lots import BAD_LOT, ROW, wrong_lots
from tests.test_program import too_great

FAR = 10 ** 40


def listed(table, lot):
    return list(dealings(table, lot))


def few(table, lot):
    return len(table.kinds) <= 4 and sum(table.hands[person] for person in lot) <= 8


def lots_to_count():
    """Lots of trees, round tables and other webs, some of them with mosts and shares that bind."""
    rule = random.Random(33)
    for table, model, lot in each_lot():
        if few(table, lot):
            yield table, model.dealings(lot), lot
    for _ in range(40):
        tree = random_tree(rule, people=(2, 5), hands=(1, 3), kinds=(3, 4), most=6)
        # With one tie more, where person 0 has two neighbours.
        ring = tree.neighbours(0)[:2]
        more = [Table(tree.hands, tree.ties + (ring,), tree.kinds, shares=tree.shares)] if len(ring) == 2 else []
        for table in [tree] + more:
            for lot in lots(table):
                if few(table, lot):
                    yield table, Model(table).dealings(lot), lot


class Dealings(unittest.TestCase):
    def test_against_all_rows(self):
        lengths, forms = set(), set()
        for table, expected, lot in lots_to_count():
            self.assertEqual(listed(table, lot), sorted(expected), (fields(table), lot))
            self.assertEqual(count_dealings(table, lot), len(expected))
            lengths.add(len(expected))
            if expected:
                forms.add((table.is_tree(), table.is_round(), bool(table.shares)))
        self.assertLessEqual({0, 1, 2}, lengths)
        self.assertGreater(max(lengths), 10)
        self.assertLessEqual({(True, False, False), (True, False, True), (False, True, False), (False, True, True)},
                             forms)

    def test_each_index(self):
        for table, expected, lot in lots_to_count():
            for index, dealing in enumerate(sorted(expected)):
                found = dealing_at(table, lot, index)
                self.assertEqual((found, frozen(found)), (dealing, found))
                self.assertEqual(index_of(table, lot, dealing), index)
            for index in (-1, -2, len(expected), len(expected) + 1, FAR, -FAR):
                self.assertEqual(refused(dealing_at, table, lot, index), no_such("dealing"))

    def test_a_lot_of_eight_hands(self):
        """Four people with two hands each, and two kinds each way."""
        row = (0, 1, 2, 3)
        for most in (3, 4, 5, 8):
            kinds = [(row, most), (row[::-1], most), ((1, 2, 3), 2), ((2, 1, 0), 24)]
            table = Table([2] * 4, ROW, kinds, shares=[((0, 1), 7)])
            found = listed(table, row)
            self.assertEqual(found, sorted(set(found)))
            self.assertEqual(count_dealings(table, row), len(found))
            self.assertEqual([dealing_at(table, row, index) for index in range(len(found))], found)
            self.assertEqual([index_of(table, row, dealing) for dealing in found], list(range(len(found))))
        self.assertGreater(len(found), 50)

    def test_two_people_with_four_hands(self):
        kinds = [((0, 1), 24), ((0, 1), 24), ((1, 0), 24), ((1, 0), 2)]
        table = Table([4, 4], [(0, 1)], kinds)
        self.assertEqual(count_dealings(table, (0, 1)), 5 * 3)
        self.assertEqual(dealing_at(table, (0, 1), 0), ((0, 4, 0, 0), (0, 0, 2, 2)))
        self.assertEqual(dealing_at(table, (0, 1), 14), ((4, 0, 0, 0), (0, 0, 4, 0)))
        self.assertEqual(index_of(table, (0, 1), ((1, 3, 0, 0), (0, 0, 3, 1))), 4)

    def test_no_dealing_at_all(self):
        for table in (Table([1, 1], [(0, 1)], []), Table([1, 1], [(0, 1)], [((0, 1), 1)]),
                      Table([2, 1], [(0, 1)], [((0, 1), 2), ((1, 0), 1)], shares=[((0, 1), 2)])):
            self.assertEqual((listed(table, (0, 1)), count_dealings(table, (0, 1))), ([], 0))
            for index in (0, -1, 1):
                self.assertEqual(refused(dealing_at, table, (0, 1), index), no_such("dealing"))
            rows = [[0] * len(table.kinds)] * 2
            self.assertEqual(refused(index_of, table, (0, 1), rows), BAD_DEALING)

    def test_lists(self):
        for table, expected, lot in lots_to_count():
            for form in (thawed, mixed, lambda rows: mixed(rows, 1)):
                given = form(lot)
                self.assertEqual(listed(table, given), sorted(expected))
                self.assertEqual(count_dealings(table, given), len(expected))
                for index, dealing in list(enumerate(sorted(expected)))[:3]:
                    self.assertEqual(dealing_at(table, given, index), dealing)
                    rows = form(dealing)
                    before = copy.deepcopy((given, rows))
                    self.assertEqual(index_of(table, given, rows), index)
                    self.assertEqual((given, rows), before)

    def test_a_generator(self):
        table = Table([4, 4], [(0, 1)], [((0, 1), 24), ((0, 1), 24), ((1, 0), 24), ((1, 0), 2)])
        lot = [0, 1]
        one, other = dealings(table, lot), dealings(table, (0, 1))
        self.assertIs(iter(one), one)
        self.assertEqual(next(one), next(other))
        lot.clear()
        self.assertEqual(list(one), list(other))


class Errors(unittest.TestCase):
    def calls(self, table, lot, rows=()):
        first = dealings(table, lot)
        return [refused(next, first), refused(count_dealings, table, lot), refused(dealing_at, table, lot, -1),
                refused(index_of, table, lot, rows)]

    def test_raised_only_when_it_is_iterated(self):
        steps = dealings(Table([1, 1], [(0, 1)], [((0, 1), 1)] * 5), (0, 1, 2))
        self.assertEqual(refused(next, steps), BAD_LOT)
        steps = dealings(Table([1, 1], [(0, 1)], [((0, 1), 1)] * 5), (0, 1))
        self.assertEqual(refused(next, steps), too_great("kinds"))
        steps = dealings(Table([4, 4, 1], [(0, 1), (1, 2)], []), (0, 1, 2))
        self.assertEqual(refused(next, steps), too_great("hands"))

    def test_wrong_lots(self):
        """Ahead of everything else."""
        for kinds in ([((0, 1, 2, 3), 4), ((3, 2, 1, 0), 4)], [((0, 1), 1)] * 6):
            for hands in ([1] * 4, [4] * 4):
                table = Table(hands, ROW, kinds)
                for lot in wrong_lots():
                    for form in (tuple, list):
                        self.assertEqual(self.calls(table, form(lot)), [BAD_LOT] * 4)

    def test_wrong_dealings(self):
        """They come ahead of what is too great."""
        ways = [(0, 1), (1, 2, 3), (1, 0), (3, 2, 1, 0), (0, 1), (1, 0)]
        for kinds, hands in ((2, 1), (6, 1), (2, 4), (6, 4)):
            table = Table([hands] * 4, ROW, [(way, 24) for way in ways[:kinds]])
            for rows in ((), [()] * 3, [[0] * kinds] * 3, [[hands] + [0] * (kinds - 1)] * 3, [[FAR] * kinds] * 3,
                         [[-1] * kinds] * 3):
                self.assertEqual(refused(index_of, table, (0, 1, 2), rows), BAD_DEALING)

    def test_rows_near_to_dealings(self):
        for table, expected, lot in list(lots_to_count())[::3]:
            for dealing in expected[:2]:
                for rows in nearby(dealing):
                    error = None if rows in expected else BAD_DEALING
                    self.assertEqual(refused(index_of, table, lot, rows), error)

    def test_too_great(self):
        both_ways = [((0, 1), 24), ((1, 0), 24)]
        rows = {1: [[1, 0], [0, 1]], 4: [[4, 0], [0, 4]]}
        for more in range(5):
            for hands in ([4, 4], [4, 1], [1, 1]):
                table = Table(hands + [1], [(0, 1), (1, 2)], both_ways + [((0, 1), 0)] * more)
                dealing = [rows[hands[0]][0] + [0] * more, rows[hands[1]][1] + [0] * more]
                expected = too_great("kinds") if more > 2 else None
                found = self.calls(table, (0, 1), dealing)
                self.assertEqual(found[:2] + found[3:], [expected] * 3)
                self.assertEqual(found[2], expected or no_such("dealing"))
        kinds = both_ways + [((1, 2), 24), ((2, 1), 24)]
        dealing = [[4, 0, 0, 0], [0, 4, 0, 0], [0, 0, 0, 1]]
        table = Table([4, 4, 1], [(0, 1), (1, 2)], kinds)
        self.assertEqual(self.calls(table, (0, 1, 2), dealing), [too_great("hands")] * 4)
        dealing = [row + [0] for row in dealing]
        table = Table([4, 4, 1], [(0, 1), (1, 2)], kinds + [((0, 1), 1)])
        self.assertEqual(self.calls(table, (0, 1, 2), dealing), [too_great("kinds")] * 4)
        # Only the hands of the lot count.
        self.assertIsNone(refused(count_dealings, Table([4, 4, 1], [(0, 1), (1, 2)], kinds), (0, 1)))

import copy
import itertools
import random
import unittest

from fullhands.dealing.judge import judge
from fullhands.ground.table import Table
from fullhands.remedies.cures import (
    barrings, cheapest_barring, cheapest_quickening, cheapest_relief, least_lots, quickenings, reliefs,
)
from tests.model import Model
from tests.search import random_tree, searched
from tests.support import fields, frozen, refused
from tests.test_blocker import least_of
from tests.test_danger import bad_vector
from tests.test_judge import NO_TREE, RING
from tests.test_program import too_great

FAR = 10 ** 40
LISTS = (least_lots, reliefs, quickenings, barrings)
CHEAPEST = (cheapest_relief, cheapest_quickening, cheapest_barring)
ROW = [(0, 1), (1, 2)]
PAIR = [((0, 1), 1), ((1, 0), 1)]


def trees():
    """Trees of up to 4 people, with quick ties and shares, most of which can get stuck."""
    rule = random.Random(38)
    yield from [table for table, _ in searched() if table.people <= 4][::3]
    for turn in range(60):
        yield random_tree(rule, people=(3, 4), kinds=(4, 6), most=4, quick=0.15, shares=0.3 if turn % 2 else 0)


def all_sets(members):
    members = list(members)
    return [some for many in range(len(members) + 1) for some in itertools.combinations(members, many)]


def dealt_lots(table):
    """All slow lots that can be dealt, by going through their dealings."""
    model = Model(table)
    return [lot for lot in model.lots(slow=True) if model.dealings(lot)]


def is_safe_when_quick(table, ties):
    for tie in ties:
        table = table.with_quick(*tie)
    return not judge(table).STUCK


def is_safe_without(table, kinds):
    for kind in kinds:
        table = table.with_most(kind, 0)
    return not judge(table).STUCK


class Lists(unittest.TestCase):
    def test_least_lots(self):
        lengths = set()
        for table in trees():
            dealt = dealt_lots(table)
            least = [lot for lot in dealt if not any(set(other) < set(lot) for other in dealt)]
            self.assertEqual(least_lots(table), least, fields(table))
            lengths.update([len(least)] + ["bigger"] * (len(least) < len(dealt)))
        self.assertLessEqual({0, 1, 2, "bigger"}, lengths)

    def test_reliefs(self):
        sizes = set()
        for table in trees():
            dealt = dealt_lots(table)
            every = [some for some in all_sets(range(table.people)) if all(set(some) & set(lot) for lot in dealt)]
            self.assertEqual(reliefs(table), least_of(every), fields(table))
            sizes.update(len(some) for some in reliefs(table))
        self.assertLessEqual({0, 1, 2}, sizes)

    def test_quickenings(self):
        sizes = set()
        for table in trees():
            slow = [tie for tie in table.ties if tie not in table.quick]
            every = [some for some in all_sets(slow) if is_safe_when_quick(table, some)]
            self.assertEqual(quickenings(table), least_of(every), fields(table))
            sizes.update((len(some), bool(table.quick)) for some in quickenings(table))
        self.assertLessEqual({(0, True), (1, True), (1, False), (2, False)}, sizes)

    def test_barrings(self):
        sizes = set()
        for table in trees():
            every = [some for some in all_sets(range(len(table.kinds))) if is_safe_without(table, some)]
            self.assertEqual(barrings(table), least_of(every), fields(table))
            sizes.update(len(some) for some in barrings(table))
        self.assertLessEqual({0, 1, 2, 3}, sizes)

    def test_trees_of_more_people(self):
        """All of them but the barrings are there for trees of any size."""
        rule = random.Random(39)
        stuck = 0
        for _ in range(25):
            table = random_tree(rule, people=(5, 6), kinds=(5, 6), most=4, quick=0.1, shares=0.1)
            dealt = dealt_lots(table)
            stuck += bool(dealt)
            self.assertEqual(least_lots(table), least_of(dealt))
            every = [some for some in all_sets(range(table.people)) if all(set(some) & set(lot) for lot in dealt)]
            self.assertEqual(reliefs(table), least_of(every))
            slow = [tie for tie in table.ties if tie not in table.quick]
            every = [some for some in all_sets(slow) if is_safe_when_quick(table, some)]
            self.assertEqual(quickenings(table), least_of(every))
        self.assertGreater(stuck, 10)

    def test_two_knots(self):
        """Two pairs that can each get stuck by themselves, with a tie between them."""
        kinds = PAIR + [((2, 3), 1), ((3, 2), 1)]
        table = Table([1] * 4, ROW + [(2, 3)], kinds)
        self.assertEqual(least_lots(table), [(0, 1), (2, 3)])
        self.assertEqual(reliefs(table), [(0, 2), (0, 3), (1, 2), (1, 3)])
        self.assertEqual(quickenings(table), [((0, 1), (2, 3))])
        self.assertEqual(barrings(table), [(0, 2), (0, 3), (1, 2), (1, 3)])

    def test_order_by_the_number_of_members(self):
        """A set of one member comes first, also when its member is a greater one."""
        kinds = [((0, 1), 1), ((1, 0), 1), ((1, 2), 1), ((2, 1), 1), ((3, 1), 1)]
        table = Table([1, 1, 1, 1], ROW + [(1, 3)], kinds)
        self.assertEqual(least_lots(table), [(0, 1), (1, 2)])
        self.assertEqual(reliefs(table), [(1,), (0, 2)])
        table = table.with_kind((1, 3), 1)
        self.assertEqual(least_lots(table), [(0, 1), (1, 2), (1, 3)])
        self.assertEqual(reliefs(table), [(1,), (0, 2, 3)])
        table = Table([1, 1, 1], ROW, [((0, 1), 1), ((2, 1), 1), ((1, 0), 1), ((1, 2), 1)])
        self.assertEqual(barrings(table), [(0, 1), (0, 3), (1, 2), (2, 3)])
        table = Table([1, 2, 1], ROW, [((0, 1), 1), ((2, 1), 1), ((1, 0), 1), ((1, 2), 1)])
        self.assertEqual(least_lots(table), [(0, 1, 2)])
        self.assertEqual(reliefs(table), [(0,), (1,), (2,)])
        self.assertEqual(barrings(table), [(0,), (1,), (2,), (3,)])
        self.assertEqual(quickenings(table), [((0, 1),), ((1, 2),)])
        table = Table([1, 1, 1], ROW, [((0, 1), 1), ((0, 1), 1), ((1, 0), 1)])
        self.assertEqual(barrings(table), [(2,), (0, 1)])

    def test_kinds_with_a_most_of_0(self):
        table = Table([1, 1], [(0, 1)], [((0, 1), 0)] + PAIR)
        self.assertEqual(barrings(table), [(1,), (2,)])

    def test_safe_trees(self):
        for table in (Table([1], [], []), Table([4], [], []), Table([1, 1], [(0, 1)], []),
                      Table([1, 1], [(0, 1)], PAIR, quick=[(0, 1)]), Table([2, 1], [(0, 1)], PAIR)):
            self.assertEqual(least_lots(table), [])
            for call in (reliefs, quickenings, barrings):
                self.assertEqual(call(table), [()])

    def test_what_is_returned_is_not_shared(self):
        table = Table([1, 1], [(0, 1)], PAIR)
        before = fields(table)
        for call in LISTS:
            found = call(table)
            expected = copy.deepcopy(found)
            self.assertEqual((type(found), found), (list, list(frozen(found))))
            found.clear()
            self.assertEqual(call(table), expected)
        self.assertEqual(fields(table), before)


def cost_of(members, prices, some):
    return sum(price for member, price in zip(members, prices) if member in some)


class Prices(unittest.TestCase):
    def parts(self, table):
        return ((cheapest_relief, reliefs, list(range(table.people))), (cheapest_quickening, quickenings, table.ties),
                (cheapest_barring, barrings, list(range(len(table.kinds)))))

    def test_the_first_one_of_the_cheapest(self):
        rule = random.Random(39)
        kept = set()
        for table in trees():
            for cheapest, every, members in self.parts(table):
                sets = every(table)
                for choice in ((0,), (1,), (0, 1), (0, 1, 2, 3), (1, 5, FAR, FAR + 1), range(100)):
                    prices = [rule.choice(choice) for _ in members]
                    before = list(prices)
                    costs = [cost_of(members, prices, some) for some in sets]
                    expected = (min(costs), sets[costs.index(min(costs))])
                    found = cheapest(table, prices)
                    self.assertEqual(found, expected)
                    self.assertEqual((type(found), type(found[1])), (tuple, tuple))
                    self.assertEqual(cheapest(table, tuple(prices)), expected)
                    self.assertEqual(prices, before)
                    kept.add((cheapest, costs.count(min(costs)) > 1, sets.index(expected[1]) > 0))
        self.assertGreaterEqual(len(kept), 9)

    def test_prices_of_ties_are_in_their_order(self):
        kinds = [((0, 2), 1), ((2, 0), 1), ((1, 2), 1), ((2, 1), 1), ((2, 3), 1), ((3, 2), 1)]
        table = Table([1] * 4, [(3, 2), (2, 1), (2, 0)], kinds)
        self.assertEqual(cheapest_quickening(table, (1, 10, 100)), (111, ((0, 2), (1, 2), (2, 3))))
        self.assertEqual(cheapest_quickening(table.with_most(0, 0), (1, 10, 100)), (110, ((1, 2), (2, 3))))

    def test_safe_trees_cost_nothing(self):
        table = Table([2, 1], [(0, 1)], PAIR)
        self.assertEqual(cheapest_relief(table, (5, FAR)), (0, ()))
        self.assertEqual(cheapest_quickening(table, (0,)), (0, ()))
        self.assertEqual(cheapest_barring(table, (5, 5)), (0, ()))
        self.assertEqual(cheapest_barring(Table([1], [], []), ()), (0, ()))
        self.assertEqual(cheapest_quickening(Table([1], [], []), []), (0, ()))

    def test_bad_prices(self):
        for table in (Table([1, 1], [(0, 1)], PAIR + PAIR[:1]), Table([2, 2], [(0, 1)], PAIR + PAIR[:1])):
            for cheapest, _, members in self.parts(table):
                good = [1] * len(members)
                self.assertIsNone(refused(cheapest, table, good))
                bad = [good + [1], good[1:], good + [-1], [], [-1] * len(good), good[1:] + [-1], [-1] + good[1:],
                       [-FAR] * len(good), good * 3]
                for prices in bad:
                    self.assertEqual(refused(cheapest, table, prices), bad_vector(0))
                    self.assertEqual(refused(cheapest, table, tuple(prices)), bad_vector(0))


class Errors(unittest.TestCase):
    def test_wrong_ground(self):
        four = RING + [(0, 3)]
        six = RING + [(0, 3), (3, 4), (4, 5)]
        for ties, many in ((RING, 3), (four, 4), (six, 6)):
            for kinds in ([], PAIR):
                table = Table([1] * many, ties, kinds)
                for call in LISTS:
                    self.assertEqual(refused(call, table), NO_TREE)
                for call in CHEAPEST:
                    for prices in ((), (-1,), (1,) * many, (1,) * len(ties), (1,) * len(kinds)):
                        self.assertEqual(refused(call, table, prices), NO_TREE)

    def test_too_many_people(self):
        for many in (5, 6):
            ties = [(0, person) for person in range(1, many)]
            for kinds in ([], PAIR):
                table = Table([1] * many, ties, kinds)
                self.assertEqual(refused(barrings, table), too_great("people"))
                for prices in ((), (-1,), (1,) * len(kinds), (1, -1)):
                    self.assertEqual(refused(cheapest_barring, table, prices), too_great("people"))
                for call in (least_lots, reliefs, quickenings):
                    self.assertIsNone(refused(call, table))
                self.assertIsNone(refused(cheapest_relief, table, (1,) * many))
                self.assertIsNone(refused(cheapest_quickening, table, (1,) * len(ties)))
                self.assertEqual(refused(cheapest_relief, table, ()), bad_vector(0))
                self.assertEqual(refused(cheapest_quickening, table, (1,) * many), bad_vector(0))

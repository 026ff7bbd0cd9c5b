import random
import unittest

from fullhands.ground.table import Table
from fullhands.least.dishes import dishes_certificate, least_dishes
from fullhands.moves.run import trace
from fullhands.moves.standing import Standing
from tests.model import Model, dealing_tables
from tests.search import random_tree, searched
from tests.support import fields, frozen, refused
from tests.test_judge import NO_TREE, RING, Checks


class LeastDishes(Checks):
    def check_certificate(self, table, least):
        model = Model(table)
        found = dishes_certificate(table)
        self.assertEqual((len(found), found[0]), (3, least))
        verdict, shorts = found[1:]
        self.check_stuck(table, verdict)
        self.assertEqual(sum(table.hands[person] for person in verdict.lot), least)
        totals = [standing.total for standing in trace(Standing.empty(table), verdict.run)]
        self.assertLessEqual(max(totals), least)
        fewer = [lot for lot in model.lots(slow=True) if sum(table.hands[person] for person in lot) < least]
        self.assertEqual([lot for lot, _ in shorts], fewer)
        self.assertEqual(shorts, frozen(shorts))
        for lot, people in shorts:
            self.assertTrue(model.is_short(lot, people), (lot, people))
        return len(shorts)

    def test_against_a_search_through_all_standings(self):
        shorts, stuck = set(), 0
        for table, search in searched():
            least = search.least_dishes()
            self.assertEqual(least_dishes(table), least, fields(table))
            if least is None:
                self.assertIsNone(dishes_certificate(table))
            else:
                stuck += 1
                shorts.add(self.check_certificate(table, least))
        self.assertGreater(stuck, 50)
        self.assertLessEqual({0, 1, 2}, shorts)

    def test_greater_trees(self):
        rule = random.Random(30)
        stuck = 0
        for _ in range(100):
            table = random_tree(rule, people=(3, 6), hands=(1, 3), kinds=(4, 6), most=5, quick=0.1, shares=0.3)
            model = Model(table)
            least = min([sum(table.hands[person] for person in lot) for lot in model.lots(slow=True)
                         if not any(model.is_short(lot, some) for some in parts(lot))], default=None)
            self.assertEqual(least_dishes(table), least)
            if least is None:
                self.assertIsNone(dishes_certificate(table))
            else:
                stuck += 1
                self.check_certificate(table, least)
        self.assertGreater(stuck, 30)

    def test_all_hands(self):
        people = tuple(range(6))
        table = Table([4] * 6, list(zip(people, people[1:])), [(people, 24), (people[::-1], 24)])
        self.assertEqual(least_dishes(table), 8)
        self.check_certificate(table, 8)
        # Only the first person can be dealt kind 0, and only the last one kind 2.
        table = Table([4, 3, 4], [(0, 1), (1, 2)], [((0, 1), 4), ((1, 0), 2), ((1, 2), 1), ((2, 1), 4)])
        self.assertEqual(least_dishes(table), 11)
        self.assertEqual(self.check_certificate(table, 11), 2)

    def test_a_lot_of_more_people_with_fewer_hands(self):
        table = Table([4, 4, 1, 1, 1], [(0, 1), (1, 2), (2, 3), (3, 4)],
                      [((0, 1), 4), ((1, 0), 4), ((2, 3), 1), ((3, 4), 1), ((4, 3, 2), 1)])
        self.assertEqual(least_dishes(table), 2)
        table = table.with_most(3, 0)
        self.assertIsNotNone(least_dishes(table))
        self.check_certificate(table, least_dishes(table))

    def test_safe_trees(self):
        for table in (Table([1], [], []), Table([1, 1], [(0, 1)], []),
                      Table([1, 1], [(0, 1)], [((0, 1), 1), ((1, 0), 0)]),
                      Table([1, 1], [(0, 1)], [((0, 1), 1), ((1, 0), 1)], quick=[(0, 1)])):
            self.assertIsNone(least_dishes(table))
            self.assertIsNone(dishes_certificate(table))

    def test_wrong_ground(self):
        for table in dealing_tables():
            if not table.is_tree():
                self.assertEqual(refused(least_dishes, table), NO_TREE)
                self.assertEqual(refused(dishes_certificate, table), NO_TREE)
        self.assertEqual(refused(least_dishes, Table([1] * 3, RING, [])), NO_TREE)
        self.assertEqual(refused(dishes_certificate, Table([1] * 3, RING, [])), NO_TREE)

    def test_the_table_stays_as_it_is(self):
        for table, _ in searched()[:20]:
            before = fields(table)
            dishes_certificate(table)
            self.assertEqual(fields(table), before)


def parts(lot):
    """All sets of people of the lot."""
    found = [()]
    for person in lot:
        found += [some + (person,) for some in found]
    return found

import itertools
import random
import unittest

from fullhands.ground.table import Table
from fullhands.least.effort import effort_certificate, least_effort
from fullhands.moves.run import run_effort
from tests.model import Model, dealing_tables
from tests.search import random_tree, searched
from tests.support import fields, frozen, refused
from tests.test_judge import NO_TREE, RING, Checks


class EffortChecks(Checks):
    def least_cost(self, model, lot):
        """The least cost of a dealing of the lot, or None, found by going through all of them."""
        costs = [sum(many * (1 + model.kinds[kind][0].index(person)) for person, row in zip(lot, dealing)
                     for kind, many in enumerate(row) if many) for dealing in model.dealings(lot)]
        return min(costs, default=None)

    def worth(self, model, lot, weights):
        """The worth of a weights row whose integers are of the right kind and keep all inequalities."""
        people, kinds, shares = weights
        self.assertEqual((len(people), len(kinds), len(shares)),
                         (len(lot), len(model.kinds), len(model.shares)))
        for number in people + kinds + shares:
            self.assertIs(type(number), int)
        self.assertGreaterEqual(min(kinds + shares, default=0), 0)
        for person, weight in zip(lot, people):
            for kind, (way, _) in enumerate(model.kinds):
                if model.can_hold(lot, kind, person):
                    most = 1 + way.index(person) + kinds[kind]
                    most += sum(shares[share] for share, (members, _) in enumerate(model.shares) if kind in members)
                    self.assertLessEqual(weight, most)
        used = sum(most * weight for (_, most), weight in zip(model.kinds, kinds))
        used += sum(bound * weight for (_, bound), weight in zip(model.shares, shares))
        return sum(model.hands[person] * weight for person, weight in zip(lot, people)) - used

    def check_certificate(self, table, effort):
        model = Model(table)
        found = effort_certificate(table)
        self.assertEqual(found, (found[0], found[1], frozen(found[2])))
        self.assertEqual(found[0], effort)
        self.check_stuck(table, found[1])
        self.assertEqual(run_effort(found[1].run), effort)
        self.assertEqual([row[1] for row in found[2]], model.lots(slow=True))
        for row in found[2]:
            cost = self.least_cost(model, row[1])
            if cost is None:
                self.assertEqual((len(row), row[0]), (3, "short"))
                self.assertTrue(model.is_short(row[1], row[2]))
            else:
                self.assertEqual((len(row), row[0]), (5, "weights"))
                self.assertEqual(self.worth(model, row[1], row[2:]), cost)
                self.assertGreaterEqual(cost, effort)
        return [row[0] for row in found[2]]


class LeastEffort(EffortChecks):
    def test_against_a_search_through_all_standings(self):
        forms = set()
        for table, search in searched():
            effort = search.effort()
            self.assertEqual(least_effort(table), effort, fields(table))
            if effort is None:
                self.assertIsNone(effort_certificate(table))
            else:
                rows = self.check_certificate(table, effort)
                forms.update([("weights" in rows, "short" in rows, bool(table.quick), bool(table.shares))])
        self.assertLessEqual({(True, True, True, False), (True, True, False, True), (True, False, False, False)}, forms)

    def test_all_dealings_of_greater_trees(self):
        """Ways of several steps, so that what is cheapest for one person is often needed by another one."""
        rule = random.Random(31)
        stuck = 0
        for turn in range(150):
            table = random_tree(rule, people=(3, 5), hands=(1, 3), kinds=(4, 6), most=4, quick=0.1,
                                shares=0.8 if turn % 2 else 0)
            model = Model(table)
            costs = [self.least_cost(model, lot) for lot in model.lots(slow=True)]
            effort = min([cost for cost in costs if cost is not None], default=None)
            self.assertEqual(least_effort(table), effort, fields(table))
            if effort is not None:
                stuck += 1
                self.check_certificate(table, effort)
        self.assertGreater(stuck, 50)

    def test_mosts_and_shares_that_bind(self):
        """The cheap dishes of kind 0 do not suffice when its most or its share is small."""
        row = [(0, 1), (1, 2)]
        for most, bound, both in itertools.product((0, 1, 2, 3, 24), (0, 1, 2, 3, 24), (False, True)):
            kinds = [((1, 0), most), ((2, 1, 0), 3), ((0, 1), 2)]
            table = Table([2, 3, 1], row, kinds, shares=[((0, 1) if both else (0,), bound)])
            model = Model(table)
            costs = [self.least_cost(model, lot) for lot in model.lots()]
            effort = min([cost for cost in costs if cost is not None], default=None)
            cheap = min(most, bound, 3)
            if both:
                self.assertEqual(effort, None if bound < 3 else 2 + 3 + (3 - cheap))
            else:
                self.assertEqual(effort, 2 + 3 + (3 - cheap))
            self.assertEqual(least_effort(table), effort)
            if effort is not None:
                self.check_certificate(table, effort)

    def test_a_dish_is_taken_from_one_person_for_another(self):
        """Person 1 would be dealt kind 0 for less, but person 2 can be dealt nothing else."""
        row = [(0, 1), (1, 2)]
        kinds = [((1, 0), 1), ((2, 1, 0), 2), ((0, 1, 2), 1)]
        table = Table([1, 1, 1], row, kinds)
        self.assertEqual(least_effort(table), 2)
        table = Table([1, 1, 1], row, [((2, 1, 0), 1), ((1, 0), 0), ((0, 1, 2), 1), ((1, 2), 1)])
        self.check_certificate(table, least_effort(table))

    def test_great_numbers(self):
        people = tuple(range(6))
        table = Table([4] * 6, list(zip(people, people[1:])), [(people, 24), (people[::-1], 24)])
        # Persons 2 and 3 are in the middle: 4 dishes come over 2 ties each way.
        self.assertEqual(least_effort(table), 4 * 1 + 4 * 5)
        found = effort_certificate(table)
        self.assertEqual(found[0], 24)
        self.check_stuck(table, found[1])
        self.assertEqual(len(found[2]), 15)

    def test_safe_trees(self):
        for table in (Table([1], [], []), Table([1, 1], [(0, 1)], []),
                      Table([1, 1], [(0, 1)], [((0, 1), 1), ((1, 0), 0)]),
                      Table([1, 1], [(0, 1)], [((0, 1), 1), ((1, 0), 1)], quick=[(0, 1)])):
            self.assertIsNone(least_effort(table))
            self.assertIsNone(effort_certificate(table))

    def test_two_people(self):
        table = Table([1, 1], [(0, 1)], [((0, 1), 1), ((1, 0), 1)])
        found = effort_certificate(table)
        self.assertEqual((found[0], found[1].lot, set(found[1].run)), (2, (0, 1), {("enter", 0), ("enter", 1)}))
        self.assertEqual([row[:2] for row in found[2]], [("weights", (0, 1))])

    def test_wrong_ground(self):
        for table in dealing_tables():
            if not table.is_tree():
                self.assertEqual(refused(least_effort, table), NO_TREE)
                self.assertEqual(refused(effort_certificate, table), NO_TREE)
        self.assertEqual(refused(least_effort, Table([1] * 3, RING, [])), NO_TREE)

    def test_the_table_stays_as_it_is(self):
        for table, _ in searched()[:20]:
            before = fields(table)
            least_effort(table)
            effort_certificate(table)
            self.assertEqual(fields(table), before)

import itertools
import unittest

from fullhands.dealing.lots import can_hold, lots, supply
from fullhands.ground.table import Table
from tests.model import Model, dealing_tables, each_lot
from tests.support import no_such, refused

BAD_LOT = ("BadLot",)
ROW = [(0, 1), (1, 2), (2, 3)]
STAR = [(0, 1), (0, 2), (0, 3)]
ROUND = [(0, 1), (1, 2), (2, 3), (0, 3)]


def made(ties, quick=()):
    return Table([1, 1, 1, 1], ties, [], quick=quick)


def wrong_lots():
    """Rows that are no lots of a row of four people."""
    return [
        (), (0,), (3,), (0, 0), (1, 1, 2), (0, 1, 1), (1, 0), (0, 2, 1), (2, 1, 0), (0, 2), (1, 3), (0, 1, 3),
        (0, 2, 3), (0, 1, 2, 3, 4), (3, 4), (-1, 0), (-1, 0, 1), (0, 1, 10 ** 40), (-10 ** 40, 0, 1), (7, 8),
        (0, 1, 2, 3, 3), (-1, -1), (4,), (-4, -3), (0, 1, 2, 3, 0),
    ]


class AllLots(unittest.TestCase):
    def test_row(self):
        expected = [(0, 1), (1, 2), (2, 3), (0, 1, 2), (1, 2, 3), (0, 1, 2, 3)]
        self.assertEqual(lots(made(ROW)), expected)
        self.assertEqual(lots(made(ROW), slow=False), expected)
        self.assertEqual(lots(made(ROW), slow=True), expected)

    def test_star(self):
        expected = [(0, 1), (0, 2), (0, 3), (0, 1, 2), (0, 1, 3), (0, 2, 3), (0, 1, 2, 3)]
        self.assertEqual(lots(made(STAR)), expected)

    def test_round_table(self):
        expected = [(0, 1), (0, 3), (1, 2), (2, 3), (0, 1, 2), (0, 1, 3), (0, 2, 3), (1, 2, 3), (0, 1, 2, 3)]
        self.assertEqual(lots(made(ROUND)), expected)

    def test_slow(self):
        self.assertEqual(lots(made(ROW, [(1, 2)]), slow=True), [(0, 1), (2, 3)])
        self.assertEqual(len(lots(made(ROW, [(1, 2)]))), 6)
        self.assertEqual(lots(made(ROUND, [(0, 3)]), slow=True), [(0, 1), (1, 2), (2, 3), (0, 1, 2), (1, 2, 3)])
        self.assertEqual(lots(made(ROW, ROW), slow=True), [])

    def test_a_quick_tie_that_is_not_needed_to_join(self):
        table = made(ROUND + [(0, 2)], [(0, 2)])
        expected = [(0, 1), (0, 3), (1, 2), (2, 3), (0, 1, 3), (1, 2, 3)]
        self.assertEqual(lots(table, slow=True), expected)

    def test_one_person_alone(self):
        self.assertEqual(lots(Table([4], [], [])), [])
        self.assertEqual(lots(Table([4], [], []), slow=True), [])

    def test_two_people(self):
        self.assertEqual(lots(Table([1, 1], [(0, 1)], [])), [(0, 1)])
        self.assertEqual(lots(Table([1, 1], [(0, 1)], [], quick=[(0, 1)]), slow=True), [])

    def test_six_people(self):
        pairs = list(itertools.combinations(range(6), 2))
        self.assertEqual(len(lots(Table([1] * 6, pairs, []))), 57)
        around = [(at, (at + 1) % 6) for at in range(6)]
        self.assertEqual(len(lots(Table([1] * 6, around, []))), 25)
        for many in range(5, 10):
            for quick in (pairs[:2], pairs[3:4]):
                ties = sorted(set(pairs[:many] + quick + [(0, other) for other in range(1, 6)]))
                table = Table([1] * 6, ties, [], quick=quick)
                model = Model(table)
                self.assertEqual(lots(table), model.lots())
                self.assertEqual(lots(table, slow=True), model.lots(slow=True))

    def test_against_the_model(self):
        for table in dealing_tables():
            self.assertEqual(lots(table), Model(table).lots())
            self.assertEqual(lots(table, slow=True), Model(table).lots(slow=True))

    def test_what_is_returned_is_not_shared(self):
        table = made(ROW)
        lots(table).clear()
        self.assertEqual(len(lots(table)), 6)
        self.assertTrue(all(isinstance(lot, tuple) for lot in lots(table)))

    def test_slow_is_passed_by_keyword_only(self):
        with self.assertRaises(TypeError):
            lots(made(ROW), True)


class CanHold(unittest.TestCase):
    def setUp(self):
        self.table = Table([1, 1, 1, 1], ROW, [((0, 1, 2, 3), 0), ((2, 1), 1)], shares=[((1,), 0)])

    def found(self, lot):
        return [[can_hold(self.table, lot, kind, person) for person in range(4)] for kind in range(2)]

    def test_lots(self):
        self.assertEqual(self.found((0, 1, 2, 3)), [[True, True, True, False], [False, False, True, False]])
        self.assertEqual(self.found((1, 2)), [[False, True, False, False], [False, False, True, False]])
        self.assertEqual(self.found((0, 1)), [[True, False, False, False], [False, False, False, False]])
        self.assertEqual(self.found([2, 3]), [[False, False, True, False], [False, False, False, False]])

    def test_against_the_model(self):
        for table, model, lot in each_lot():
            for kind, person in itertools.product(range(len(table.kinds)), range(table.people)):
                self.assertIs(can_hold(table, lot, kind, person), model.can_hold(lot, kind, person))

    def test_wrong_lots(self):
        for lot in wrong_lots():
            for form in (tuple, list):
                self.assertEqual(refused(can_hold, self.table, form(lot), 0, 0), BAD_LOT, lot)

    def test_strange_numbers(self):
        for kind in (2, -1, -2, 10 ** 40, -10 ** 40):
            self.assertEqual(refused(can_hold, self.table, (0, 1), kind, 0), no_such("kind"))
        for person in (4, -1, -4, 10 ** 40, -10 ** 40):
            self.assertEqual(refused(can_hold, self.table, (0, 1), 0, person), no_such("person"))

    def test_order_of_errors(self):
        self.assertEqual(refused(can_hold, self.table, (0, 1), 2, 4), no_such("kind"))
        self.assertEqual(refused(can_hold, self.table, (0, 9), 2, 0), no_such("kind"))
        self.assertEqual(refused(can_hold, self.table, (), 0, -1), no_such("person"))
        self.assertEqual(refused(can_hold, self.table, (0, 9), 0, 9), no_such("person"))
        self.assertEqual(refused(can_hold, self.table, (0, 9), 0, 0), BAD_LOT)

    def test_without_kinds(self):
        self.assertEqual(refused(can_hold, made(ROW), (0, 1), 0, 0), no_such("kind"))
        self.assertEqual(refused(can_hold, Table([1], [], []), (0,), 0, 0), no_such("kind"))


class Supply(unittest.TestCase):
    def test_mosts(self):
        table = Table([1, 2, 1], [(0, 1), (1, 2)], [((0, 1, 2), 5), ((2, 1), 7), ((1, 0), 0), ((1, 2), 11)])
        whole = (0, 1, 2)
        found = [supply(table, whole, people) for people in ((0,), (1,), (2,), (0, 1), (0, 2), (1, 2), whole)]
        self.assertEqual(found, [5, 16, 7, 16, 12, 23, 23])
        found = [supply(table, (0, 1), people) for people in ((0,), (1,), (0, 1))]
        self.assertEqual(found, [5, 0, 5])
        found = [supply(table, (1, 2), people) for people in ((1,), (2,), (1, 2))]
        self.assertEqual(found, [16, 7, 23])

    def test_shares(self):
        kinds = [((0, 1, 2), 5), ((2, 1), 7), ((1, 0), 3), ((1, 2), 11), ((0, 1), 24)]
        table = Table([1, 2, 1], [(0, 1), (1, 2)], kinds, shares=[((0, 1), 9), ((2, 3), 24), ((4,), 0)])
        whole = (0, 1, 2)
        found = [supply(table, whole, people) for people in ((0,), (1,), (2,), (0, 1), (0, 2), (1, 2), whole)]
        self.assertEqual(found, [5, 5 + 14, 7, 5 + 14, 9, 9 + 14, 9 + 14])
        self.assertEqual(supply(table, (0, 1), (0, 1)), 5 + 3)

    def test_hands_play_no_part(self):
        for hands in ([1, 1], [4, 4]):
            self.assertEqual(supply(Table(hands, [(0, 1)], [((0, 1), 24), ((1, 0), 3)]), (0, 1), (0, 1)), 27)

    def test_without_kinds(self):
        self.assertEqual(supply(made(ROW), (1, 2, 3), (2,)), 0)

    def test_against_the_model(self):
        for table, model, lot in each_lot():
            for many in range(1, len(lot) + 1):
                for people in itertools.combinations(lot, many):
                    expected = model.supply(lot, people)
                    self.assertEqual(supply(table, lot, people), expected)
                    self.assertEqual(supply(table, list(lot), list(people[::-1])), expected)

    def test_wrong_lots(self):
        table = Table([1, 1, 1, 1], ROW, [((0, 1, 2, 3), 1)])
        for lot in wrong_lots():
            for form in (tuple, list):
                self.assertEqual(refused(supply, table, form(lot), (0,)), BAD_LOT, lot)
                self.assertEqual(refused(supply, table, form(lot), form(lot)), BAD_LOT, lot)

    def test_wrong_people(self):
        table = Table([1, 1, 1, 1], ROW, [((0, 1, 2, 3), 1)])
        for people in ((), (0,), (3,), (1, 1), (2, 1, 2), (1, 2, 3), (4,), (-1,), (1, -1), (10 ** 40,), (1, 2, 1, 2)):
            for form in (tuple, list):
                self.assertEqual(refused(supply, table, (1, 2), form(people)), BAD_LOT, people)

    def test_order_of_people_does_not_matter(self):
        table = Table([1, 1, 1, 1], ROW, [((0, 1, 2, 3), 2), ((2, 1), 3)])
        for people in itertools.permutations((0, 1, 2)):
            before = list(people)
            self.assertEqual(supply(table, (0, 1, 2), before), 5)
            self.assertEqual(before, list(people))

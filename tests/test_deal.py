import copy
import itertools
import unittest

from fullhands.dealing.deal import deal, dealt_standing, is_dealing, short_set, uses
from fullhands.ground.table import Table
from fullhands.moves.standing import Standing
from tests.model import Model, each_lot
from tests.support import frozen, mixed, refused, thawed
from tests.test_lots import BAD_LOT, ROW, wrong_lots

BAD_DEALING = ("BadDealing",)


def table():
    """Kind 3 is in no share, and the bound of the share is less than the mosts of its kinds together."""
    kinds = [((0, 1, 2), 3), ((2, 1, 0), 3), ((1, 0), 2), ((1, 2), 2)]
    return Table([2, 3, 2], [(0, 1), (1, 2)], kinds, shares=[((0, 1), 4)])


WHOLE = (0, 1, 2)
DEALT = ((2, 0, 0, 0), (0, 0, 1, 2), (0, 2, 0, 0))


class EveryLot(unittest.TestCase):
    """All lots of small tables, held against the list of all their dealings."""

    def test_deal(self):
        dealt = set()
        for ground, model, lot in each_lot():
            every = model.dealings(lot)
            found = deal(ground, lot)
            dealt.add(bool(every))
            if every:
                self.assertIn(found, every)
                self.assertTrue(is_dealing(ground, lot, found))
            else:
                self.assertIsNone(found)
        self.assertEqual(dealt, {True, False})

    def test_short_set(self):
        for ground, model, lot in each_lot():
            found = short_set(ground, lot)
            if model.dealings(lot):
                self.assertIsNone(found)
            else:
                self.assertIsInstance(found, tuple)
                self.assertTrue(model.is_short(lot, found), (ground.hands, lot, found))

    def test_lots_as_lists(self):
        for ground, _, lot in each_lot():
            self.assertEqual(deal(ground, list(lot)), deal(ground, lot))
            self.assertEqual(short_set(ground, list(lot)), short_set(ground, lot))

    def test_is_dealing(self):
        """The dealings, and the rows that differ from one of them, or from zeros, in one entry or two."""
        for ground, model, lot in each_lot():
            every = model.dealings(lot)
            zeros = ((0,) * len(ground.kinds),) * len(lot)
            for rows in [zeros] + every[:3] + every[-2:]:
                for changed in nearby(rows):
                    self.assertIs(is_dealing(ground, lot, changed), changed in every, (lot, changed))

    def test_dealt_standing(self):
        for ground, model, lot in each_lot():
            for rows in model.dealings(lot)[:5]:
                standing = dealt_standing(ground, lot, rows)
                self.assertIs(standing.table, ground)
                for kind in range(len(ground.kinds)):
                    found = [standing.dishes(kind, person) for person in lot]
                    self.assertEqual(found, [row[kind] for row in rows])
                self.assertEqual(standing.total, sum(ground.hands[person] for person in lot))
                self.assertLessEqual(set(lot), set(standing.full()))


def nearby(rows):
    """These rows, and all rows that differ from them by one up or down in one entry, or up in one and down in one."""
    places = [(at, kind) for at, row in enumerate(rows) for kind in range(len(row))]
    yield frozen(rows)
    for changes in [(place,) for place in places] + list(itertools.permutations(places, 2)):
        for first in (1, -1) if len(changes) == 1 else (1,):
            changed = thawed(rows)
            for turn, (at, kind) in enumerate(changes):
                changed[at][kind] += first if turn == 0 else -first
            yield frozen(changed)


class Deal(unittest.TestCase):
    def test_example(self):
        ground = Table([1, 2], [(0, 1)], [((0, 1), 2), ((1, 0), 2)])
        found = (deal(ground, (0, 1)), short_set(ground, (0, 1)), short_set(ground.with_most(1, 1), (0, 1)))
        self.assertEqual(found, (((1, 0), (0, 2)), None, (1,)))

    def test_only_dealing(self):
        ground = table().with_most(2, 1)
        self.assertEqual(deal(ground, WHOLE), DEALT)
        self.assertIsNone(deal(ground.with_most(3, 1), WHOLE))

    def test_a_share_makes_a_lot_short(self):
        kinds = [((0, 1, 2), 3), ((2, 1, 0), 3), ((1, 0), 3)]
        ground = Table([2, 1, 2], [(0, 1), (1, 2)], kinds, shares=[((0, 1), 3)])
        self.assertIsNone(deal(ground, WHOLE))
        self.assertIn(short_set(ground, WHOLE), [(0, 2)])
        wide = Table([2, 1, 2], [(0, 1), (1, 2)], kinds, shares=[((0, 1), 4)])
        self.assertEqual(deal(wide, WHOLE), ((2, 0, 0), (0, 0, 1), (0, 2, 0)))
        self.assertIsNone(short_set(wide, WHOLE))

    def test_who_can_get_several_kinds_leaves_the_only_one_of_others(self):
        ties = [(0, 1), (0, 2), (1, 2)]
        ways = [(0, 1), (1, 2), (2, 0), (0, 2), (1, 0), (2, 1)]
        found = set()
        for mosts in itertools.product((0, 1, 2), repeat=4):
            kinds = list(zip(ways, mosts + (1, 2)))
            ground = Table([2, 1, 2], ties, kinds, shares=[((0, 1), 1), ((3, 4, 5), 3)])
            model = Model(ground)
            every = model.dealings(WHOLE)
            found.add(len(every))
            if every:
                self.assertIn(deal(ground, WHOLE), every)
                self.assertIsNone(short_set(ground, WHOLE))
            else:
                self.assertIsNone(deal(ground, WHOLE))
                self.assertTrue(model.is_short(WHOLE, short_set(ground, WHOLE)), mosts)
        self.assertLessEqual({0, 1, 2}, found)

    def test_mosts_of_none(self):
        ground = Table([1, 1], [(0, 1)], [((0, 1), 0), ((1, 0), 1)])
        self.assertEqual((deal(ground, (0, 1)), short_set(ground, (0, 1))), (None, (0,)))

    def test_without_kinds(self):
        ground = Table([1, 1, 1, 1], ROW, [])
        self.assertIsNone(deal(ground, (0, 1)))
        self.assertIn(short_set(ground, (0, 1)), [(0,), (1,), (0, 1)])

    def test_dishes_that_leave_the_lot_are_not_dealt(self):
        ground = Table([1, 1, 1], [(0, 1), (1, 2)], [((0, 1), 1), ((1, 2), 1), ((2, 1), 1)])
        self.assertEqual((deal(ground, (0, 1)), short_set(ground, (0, 1))), (None, (1,)))
        self.assertEqual(deal(ground, (1, 2)), ((0, 1, 0), (0, 0, 1)))

    def test_a_great_table(self):
        ties = [(at, at + 1) for at in range(5)]
        there = tuple(range(6))
        ground = Table([4] * 6, ties, [(there, 20), (there[::-1], 4)])
        self.assertEqual(deal(ground, there), ((4, 0),) * 5 + ((0, 4),))
        self.assertIsNone(short_set(ground, there))
        # Person 5 can only get kind 1, and person 0 only kind 0.
        less = ground.with_most(1, 3)
        self.assertIsNone(deal(less, there))
        self.assertIn(5, short_set(less, there))
        self.assertIsNone(deal(ground.with_most(0, 19), there))
        self.assertIn(0, short_set(ground.with_most(0, 19), there))

    def test_wrong_lots(self):
        ground = Table([1, 1, 1, 1], ROW, [((0, 1, 2, 3), 4), ((3, 2, 1, 0), 4)])
        for lot in wrong_lots():
            for form in (tuple, list):
                for call in (deal, short_set):
                    self.assertEqual(refused(call, ground, form(lot)), BAD_LOT, lot)

    def test_a_quick_tie_plays_no_part(self):
        ground = Table([1, 1], [(0, 1)], [((0, 1), 1), ((1, 0), 1)], quick=[(0, 1)])
        self.assertEqual(deal(ground, (0, 1)), ((1, 0), (0, 1)))


class IsDealing(unittest.TestCase):
    def check(self, expected, rows, ground=None, lot=WHOLE):
        for form in (frozen, thawed, mixed, lambda some: mixed(some, 1)):
            given = form(rows)
            before = copy.deepcopy(given)
            self.assertIs(is_dealing(ground or table(), lot, given), expected, given)
            self.assertEqual(given, before)

    def test_right(self):
        self.check(True, DEALT)
        self.check(True, DEALT, lot=[0, 1, 2])

    def test_rows_too_many_or_too_few(self):
        self.check(False, ())
        self.check(False, DEALT[:2])
        self.check(False, DEALT[1:])
        self.check(False, DEALT + ((0, 0, 0, 0),))
        self.check(False, DEALT + (DEALT[0],))

    def test_entries_too_many_or_too_few(self):
        for at in range(3):
            for row in (DEALT[at] + (0,), DEALT[at][:-1], ()):
                self.check(False, DEALT[:at] + (row,) + DEALT[at + 1:])
        self.check(False, ((2, 0, 0), (0, 0, 1), (0, 2, 0)))
        self.check(False, tuple([row + (0,) for row in DEALT]))

    def test_entries_below_none(self):
        self.check(False, ((2, 0, 0, 0), (0, 0, 1, 2), (0, 3, 0, -1)))
        self.check(False, ((2, 0, 0, 0), (-1, 0, 2, 2), (0, 2, 0, 0)))
        self.check(False, ((2, 0, 0, 0), (0, -1, 2, 2), (0, 2, 0, 0)))

    def test_dishes_that_cannot_be_dealt(self):
        self.check(False, ((1, 1, 0, 0), (0, 0, 1, 2), (0, 2, 0, 0)))
        self.check(False, ((2, 0, 0, 0), (0, 0, 1, 2), (0, 1, 0, 1)))
        self.check(False, ((1, 0, 0, 1), (0, 0, 1, 2), (0, 2, 0, 0)))
        # They can be dealt in the whole, but want a person who is not of the lot.
        self.check(True, ((2, 0, 0, 0), (0, 1, 2, 0)), lot=(0, 1))
        self.check(False, ((2, 0, 0, 0), (0, 0, 2, 1)), lot=(0, 1))
        self.check(False, ((2, 0, 0, 0), (1, 0, 2, 0)), lot=(0, 1))

    def test_hands(self):
        self.check(False, ((1, 0, 0, 0), (0, 0, 1, 2), (0, 2, 0, 0)))
        self.check(False, ((2, 0, 0, 0), (0, 0, 1, 1), (0, 2, 0, 0)))
        self.check(False, ((3, 0, 0, 0), (0, 0, 1, 2), (0, 2, 0, 0)))
        self.check(False, ((2, 0, 0, 0), (0, 0, 2, 2), (0, 2, 0, 0)))
        self.check(False, ((10 ** 40, 0, 0, 0), (0, 0, 1, 2), (0, 2, 0, 0)))

    def test_a_most_is_exceeded_by_one(self):
        self.check(True, DEALT, ground=table().with_most(3, 2))
        self.check(False, DEALT, ground=table().with_most(3, 1))
        self.check(True, DEALT, ground=table().with_most(0, 2))
        self.check(False, DEALT, ground=table().with_most(0, 1))
        self.check(False, ((2, 0, 0, 0), (0, 0, 3, 0), (0, 2, 0, 0)))

    def test_a_bound_is_exceeded_by_one(self):
        kinds, ties = table().kinds, table().ties
        for bound in range(3, 6):
            ground = Table([2, 3, 2], ties, kinds, shares=[((0, 1), bound)])
            self.check(bound >= 4, DEALT, ground=ground)
        for bound in range(1, 4):
            ground = Table([2, 3, 2], ties, kinds, shares=[((0, 1), 4), ((3,), bound)])
            self.check(bound >= 2, DEALT, ground=ground)
        self.check(False, ((2, 0, 0, 0), (1, 0, 0, 2), (0, 2, 0, 0)))

    def test_without_kinds(self):
        ground = Table([1, 1], [(0, 1)], [])
        self.check(False, ((), ()), ground=ground, lot=(0, 1))
        self.check(False, (), ground=ground, lot=(0, 1))

    def test_wrong_lots(self):
        ground = Table([1, 1, 1, 1], ROW, [((0, 1, 2, 3), 4), ((3, 2, 1, 0), 4)])
        for lot in wrong_lots():
            for dealing in ((), ((1, 0), (0, 1)), [[1, 0]] * len(lot)):
                self.assertEqual(refused(is_dealing, ground, lot, dealing), BAD_LOT, lot)


class Uses(unittest.TestCase):
    def test_sums(self):
        self.assertEqual(uses(DEALT), (2, 2, 1, 2))
        self.assertEqual(uses(thawed(DEALT)), (2, 2, 1, 2))
        self.assertEqual(uses([(4, 0, 7)]), (4, 0, 7))
        self.assertEqual(uses([[10 ** 40, -1], (1, 1), [0, 0]]), (10 ** 40 + 1, 0))

    def test_without_entries(self):
        self.assertEqual(uses([(), ()]), ())
        self.assertEqual(uses(((),)), ())

    def test_a_tuple(self):
        self.assertIsInstance(uses([[1, 2], [3, 4]]), tuple)


class DealtStanding(unittest.TestCase):
    def test_places(self):
        for form in (frozen, thawed, mixed):
            standing = dealt_standing(table(), form(WHOLE), form(DEALT))
            self.assertIsInstance(standing, Standing)
            self.assertEqual(standing.places, ((2, 0), (2, 0), (1,), (2,)))
        part = dealt_standing(table(), (0, 1), ((2, 0, 0, 0), (0, 1, 2, 0)))
        self.assertEqual(part.places, ((2, 0), (0, 1), (2,), (0,)))
        self.assertEqual([part.held(person) for person in range(3)], [2, 3, 0])

    def test_stays_when_the_dealing_is_changed(self):
        rows = thawed(DEALT)
        standing = dealt_standing(table(), WHOLE, rows)
        rows[0][0] = 0
        rows.pop()
        self.assertEqual(standing.places, ((2, 0), (2, 0), (1,), (2,)))

    def test_errors(self):
        ground = table()
        for lot in ((), (0,), (0, 2), (1, 0), (0, 1, 1), (0, 1, 2, 3), (-1, 0)):
            for rows in (DEALT, (), ((9,),)):
                self.assertEqual(refused(dealt_standing, ground, lot, rows), BAD_LOT)
        for rows in ((), DEALT[:2], DEALT + DEALT, ((2, 0, 0), (0, 0, 1), (0, 2, 0)), ((9, 0, 0, 0),) + DEALT[1:],
                     ((-1, 3, 0, 0),) + DEALT[1:], ((), (), ())):
            for form in (frozen, thawed):
                self.assertEqual(refused(dealt_standing, ground, WHOLE, form(rows)), BAD_DEALING)
        self.assertEqual(refused(dealt_standing, ground.with_most(3, 1), WHOLE, DEALT), BAD_DEALING)

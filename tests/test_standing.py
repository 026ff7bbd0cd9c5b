import copy
import unittest

from fullhands.ground.table import Table
from fullhands.moves.standing import Standing
from tests.support import bad_standing, frozen, mixed, no_such, refused, thawed

KINDS = (((0, 1, 2, 3), 3), ((2, 1, 0), 2), ((4, 1), 2), ((1, 2), 0))
SHARES = (((0, 2), 3), ((1,), 1))
PLACES = ((1, 1, 0), (1, 0), (1,), (0,))


def table():
    return Table([2, 3, 1, 1, 2], [(0, 1), (1, 2), (2, 3), (1, 4)], KINDS, shares=SHARES)


def fault(places):
    return refused(Standing, table(), places)


class Building(unittest.TestCase):
    def test_fields(self):
        ground = table()
        standing = Standing(ground, PLACES)
        self.assertIs(standing.table, ground)
        self.assertEqual(standing.places, PLACES)

    def test_lists_tuples_and_mixtures(self):
        for form in (thawed, frozen, mixed, lambda rows: mixed(rows, 1)):
            standing = Standing(table(), form(PLACES))
            self.assertEqual(standing.places, PLACES)
            self.assertEqual(standing.held(1), 1)

    def test_arguments_stay_as_they_are(self):
        for places in (thawed(PLACES), [[0, 0, 0], [9, 9], [0], [0]]):
            before = copy.deepcopy(places)
            refused(Standing, table(), places)
            self.assertEqual(places, before)

    def test_standing_stays_when_the_arguments_are_changed(self):
        places = thawed(PLACES)
        standing = Standing(table(), places)
        places[0][0] = 0
        places[1].append(3)
        places.pop()
        self.assertEqual(standing.places, PLACES)
        self.assertEqual((standing.held(0), standing.out(0), standing.total, standing.left), (1, 2, 4, 8))

    def test_empty(self):
        ground = table()
        standing = Standing.empty(ground)
        self.assertIsInstance(standing, Standing)
        self.assertIs(standing.table, ground)
        self.assertEqual(standing.places, ((0, 0, 0), (0, 0), (0,), (0,)))
        self.assertEqual((standing.total, standing.left, standing.full()), (0, 0, ()))

    def test_without_kinds(self):
        for ground in (Table([1], [], []), Table([1, 1], [(0, 1)], [])):
            for standing in (Standing.empty(ground), Standing(ground, ()), Standing(ground, [])):
                self.assertEqual(standing.places, ())
                self.assertEqual((standing.held(0), standing.free(0), standing.wanted_from(0)), (0, 1, ()))
                self.assertEqual((standing.total, standing.left), (0, 0))
            for call in (standing.held, standing.free, standing.wanted_from):
                for person in (ground.people, -1):
                    self.assertEqual(refused(call, person), no_such("person"))
            self.assertEqual(refused(standing.out, 0), no_such("kind"))
            self.assertEqual(refused(standing.dishes, 0, 0), no_such("kind"))
        self.assertEqual(refused(Standing, Table([1], [], []), [[]]), bad_standing("rows", 1))


class BrokenRules(unittest.TestCase):
    def test_rows(self):
        self.assertEqual(fault([]), bad_standing("rows", 0))
        self.assertEqual(fault(PLACES[:3]), bad_standing("rows", 3))
        self.assertEqual(fault(PLACES + ((0,),)), bad_standing("rows", 5))

    def test_places(self):
        for row in ((), (0,), (0, 0, 0), (0, -1), (-1, 0), (1, -10 ** 40)):
            for form in (tuple, list):
                places = (PLACES[0], form(row)) + PLACES[2:]
                self.assertEqual(fault(places), bad_standing("places", 1), row)
        self.assertEqual(fault(((1, 0),) + PLACES[1:]), bad_standing("places", 0))
        self.assertEqual(fault(PLACES[:3] + ((0, 0),)), bad_standing("places", 3))
        self.assertEqual(fault(PLACES[:2] + ((-1,), (0, 0))), bad_standing("places", 2))

    def test_an_entry_for_the_end_is_one_too_many(self):
        self.assertEqual(fault(PLACES[:2] + ((1, 0), (0,))), bad_standing("places", 2))

    def test_hands(self):
        self.assertEqual(fault(((3, 0, 0), (0, 0), (0,), (0,))), bad_standing("hands", 0))
        self.assertEqual(fault(((0, 0, 1), (1, 0), (0,), (0,))), bad_standing("hands", 2))
        self.assertEqual(fault(((0, 0, 2), (0, 0), (3,), (0,))), bad_standing("hands", 2))
        self.assertEqual(fault(((0, 0, 0), (0, 0), (3,), (0,))), bad_standing("hands", 4))
        self.assertEqual(fault(((0, 10 ** 40, 0), (0, 0), (0,), (0,))), bad_standing("hands", 1))

    def test_as_many_as_hands(self):
        self.assertIsNone(fault(((2, 1, 0), (0, 0), (0,), (0,))))
        self.assertIsNone(fault(((0, 2, 0), (0, 1), (0,), (0,))))
        self.assertIsNone(fault(((0, 0, 1), (0, 0), (2,), (0,))))

    def test_most(self):
        wide = Table([4, 4, 4], [(0, 1), (1, 2)], [((0, 1, 2), 3), ((2, 1, 0), 0), ((1, 2), 1)])
        self.assertIsNone(refused(Standing, wide, ((2, 1), (0, 0), (1,))))
        self.assertEqual(refused(Standing, wide, ((2, 2), (0, 0), (0,))), bad_standing("most", 0))
        self.assertEqual(refused(Standing, wide, ((0, 0), (0, 1), (2,))), bad_standing("most", 1))
        self.assertEqual(refused(Standing, wide, ((0, 0), (0, 0), (2,))), bad_standing("most", 2))

    def test_shares(self):
        kinds = [((0, 1, 2), 4), ((2, 1, 0), 4), ((1, 2), 4)]
        wide = Table([4, 4, 4], [(0, 1), (1, 2)], kinds, shares=[((1,), 1), ((0, 2), 3)])
        self.assertIsNone(refused(Standing, wide, ((1, 1), (1, 0), (1,))))
        self.assertEqual(refused(Standing, wide, ((1, 1), (1, 0), (2,))), bad_standing("shares", 0))
        self.assertEqual(refused(Standing, wide, ((1, 1), (1, 1), (1,))), bad_standing("shares", 1))
        self.assertEqual(refused(Standing, wide, ((2, 2), (1, 1), (0,))), bad_standing("shares", 0))

    def test_of_two_broken_rules_the_first_one_counts(self):
        self.assertEqual(fault(((-1,),)), bad_standing("rows", 1))
        self.assertEqual(fault(((9, 0, 0), (0,), (0,), (0,))), bad_standing("places", 1))
        self.assertEqual(fault(((9, 0, 0), (0, 0), (0,), (-1,))), bad_standing("places", 3))
        # Kind 3 has its most at 0, and person 4 has two hands.
        self.assertEqual(fault(((0, 0, 0), (0, 0), (3,), (1,))), bad_standing("hands", 4))
        # Shares 0 and 1 are too great too.
        self.assertEqual(fault(((1, 1, 0), (1, 1), (2,), (1,))), bad_standing("most", 3))
        self.assertEqual(fault(((1, 1, 0), (1, 1), (2,), (0,))), bad_standing("shares", 0))
        self.assertEqual(fault(((1, 0, 0), (1, 1), (2,), (0,))), bad_standing("shares", 1))


class Questions(unittest.TestCase):
    def setUp(self):
        self.standing = Standing(table(), PLACES)

    def ask(self, question, numbers=range(5)):
        return [question(number) for number in numbers]

    def test_held_and_free(self):
        self.assertEqual(self.ask(self.standing.held), [1, 1, 1, 0, 1])
        self.assertEqual(self.ask(self.standing.free), [1, 2, 0, 1, 1])

    def test_dishes(self):
        dishes = [[self.standing.dishes(kind, person) for person in range(5)] for kind in range(4)]
        self.assertEqual(dishes, [[1, 1, 0, 0, 0], [0, 0, 1, 0, 0], [0, 0, 0, 0, 1], [0, 0, 0, 0, 0]])

    def test_several_dishes_of_a_kind(self):
        standing = Standing(table(), ((2, 1, 0), (0, 0), (0,), (0,)))
        self.assertEqual((standing.dishes(0, 0), standing.held(0), standing.out(0)), (2, 2, 3))
        self.assertEqual((standing.total, standing.left), (3, 8))

    def test_out(self):
        self.assertEqual(self.ask(self.standing.out, range(4)), [2, 1, 1, 0])

    def test_full(self):
        self.assertEqual(self.standing.full(), (2,))
        self.assertEqual(Standing(table(), ((2, 0, 1), (0, 0), (0,), (0,))).full(), (0, 2))
        self.assertEqual(Standing(table(), ((0, 1, 0), (0, 0), (2,), (0,))).full(), (4,))

    def test_wanted_from(self):
        self.assertEqual(self.ask(self.standing.wanted_from), [(1,), (2,), (1,), (), (1,)])
        both = Standing(table(), ((0, 1, 0), (0, 1), (0,), (0,)))
        self.assertEqual(self.ask(both.wanted_from), [(), (0, 2), (), (), ()])

    def test_wanted_from_without_duplicates(self):
        ground = Table([1, 4, 1], [(0, 1), (1, 2)], [((1, 2), 2), ((0, 1, 2), 2), ((1, 0), 2)])
        standing = Standing(ground, ((2,), (0, 1), (1,)))
        self.assertEqual(standing.wanted_from(1), (0, 2))

    def test_total_and_left(self):
        self.assertEqual((self.standing.total, self.standing.left), (4, 8))
        for kind, steps in enumerate((3, 2, 1)):
            for step in range(steps):
                places = [[0] * (len(way) - 1) for way, _ in KINDS]
                places[kind][step] = 1
                standing = Standing(table(), places)
                self.assertEqual((standing.total, standing.left), (1, steps - step))

    def test_strange_people(self):
        standing = self.standing
        calls = (standing.held, standing.free, standing.wanted_from, lambda person: standing.dishes(0, person))
        for call in calls:
            for person in (5, 6, -1, -5, 10 ** 40, -10 ** 40):
                self.assertEqual(refused(call, person), no_such("person"))

    def test_strange_kinds(self):
        standing = self.standing
        for call in (standing.out, lambda kind: standing.dishes(kind, 0), lambda kind: standing.dishes(kind, 9)):
            for kind in (4, 5, -1, -4, 10 ** 40, -10 ** 40):
                self.assertEqual(refused(call, kind), no_such("kind"))

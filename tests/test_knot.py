import unittest

from fullhands.ground.table import Table
from fullhands.moves.knot import knot, settle
from fullhands.moves.run import play
from fullhands.moves.standing import Standing
from fullhands.moves.step import after, possible
from tests.model import Model, each_standing, small_tables

ROW = [(0, 1), (1, 2), (2, 3)]
# Kinds 0 and 1 go between 0 and 1, kinds 2 and 3 between 2 and 3, kinds 4 and 5 between 1 and 2.
KINDS = [((0, 1), 4), ((1, 0), 4), ((2, 3), 4), ((3, 2), 4), ((1, 2), 4), ((2, 1), 4)]


def knot_of(hands, places, quick=()):
    return knot(Standing(Table(hands, ROW, KINDS, quick=quick), [(many,) for many in places]))


class GreatestKnot(unittest.TestCase):
    def test_none(self):
        self.assertEqual(knot_of([1, 1, 1, 1], (0, 0, 0, 0, 0, 0)), ())
        self.assertEqual(knot_of([1, 1, 1, 1], (1, 0, 0, 0, 0, 0)), ())
        self.assertEqual(knot_of([1, 1, 1, 1], (1, 0, 1, 0, 1, 0)), ())
        self.assertEqual(knot(Standing.empty(Table([1], [], []))), ())

    def test_one(self):
        self.assertEqual(knot_of([1, 1, 1, 1], (1, 1, 0, 0, 0, 0)), (0, 1))
        self.assertEqual(knot_of([1, 1, 1, 1], (1, 0, 0, 1, 1, 1)), (0, 1, 2, 3))
        self.assertEqual(knot_of([1, 1, 1, 1], (0, 0, 0, 1, 1, 1)), (1, 2, 3))

    def test_several(self):
        self.assertEqual(knot_of([1, 1, 1, 1], (1, 1, 1, 1, 0, 0)), (0, 1, 2, 3))
        self.assertEqual(knot_of([2, 2, 2, 1], (2, 2, 2, 1, 0, 0)), (0, 1, 2, 3))

    def test_all_hands_are_full(self):
        self.assertEqual(knot_of([1, 2, 1, 1], (1, 1, 0, 0, 0, 0)), ())
        self.assertEqual(knot_of([1, 2, 1, 1], (1, 2, 0, 0, 0, 0)), (0, 1))
        self.assertEqual(knot_of([2, 1, 1, 1], (1, 1, 1, 1, 0, 0)), (2, 3))

    def test_each_dish_wants_a_person_of_the_knot(self):
        # Person 1 holds a dish that wants 2, who is not full, so that 0 is not held up either.
        self.assertEqual(knot_of([1, 2, 1, 1], (1, 1, 0, 0, 1, 0)), ())
        self.assertEqual(knot_of([1, 2, 1, 1], (1, 1, 1, 0, 1, 0)), ())
        self.assertEqual(knot_of([1, 2, 1, 1], (1, 1, 1, 1, 1, 0)), (0, 1, 2, 3))

    def test_quick_ties(self):
        self.assertEqual(knot_of([1, 1, 1, 1], (1, 1, 0, 0, 0, 0), [(0, 1)]), ())
        self.assertEqual(knot_of([1, 1, 1, 1], (1, 1, 0, 0, 0, 0), [(1, 2), (2, 3)]), (0, 1))
        self.assertEqual(knot_of([1, 1, 1, 1], (1, 1, 1, 1, 0, 0), [(0, 1)]), (2, 3))
        self.assertEqual(knot_of([1, 1, 1, 1], (1, 1, 1, 1, 0, 0), [(2, 3)]), (0, 1))
        self.assertEqual(knot_of([1, 1, 1, 1], (1, 1, 1, 1, 0, 0), [(2, 3), (0, 1)]), ())
        # The dishes of 1 and 2 want each other, and those of 0 and 3 want 1 and 2.
        self.assertEqual(knot_of([1, 1, 1, 1], (1, 0, 0, 1, 1, 1), [(1, 2)]), ())
        self.assertEqual(knot_of([1, 2, 1, 1], (1, 1, 1, 1, 1, 0), [(0, 1)]), (2, 3))

    def test_a_quick_tie_with_dishes_in_one_direction(self):
        # Only the dish of 1 wants 2: nothing is exchanged, and the knot of all four holds.
        self.assertEqual(knot_of([1, 2, 1, 1], (1, 1, 1, 1, 1, 0), [(1, 2)]), (0, 1, 2, 3))
        ring = [(0, 1), (1, 2), (0, 2)]
        table = Table([1, 1, 1], ring, [((0, 1), 1), ((1, 2), 1), ((2, 0), 1)], quick=ring)
        self.assertEqual(knot(Standing(table, ((1,), (1,), (1,)))), (0, 1, 2))

    def test_a_quick_tie_between_others(self):
        ring = [(0, 1), (1, 2), (0, 2)]
        kinds = [((0, 1), 2), ((1, 0), 2), ((2, 0), 2), ((0, 2), 2)]
        places = ((1,), (1,), (1,), (1,))
        table = Table([2, 1, 1], ring, kinds)
        self.assertEqual(knot(Standing(table, places)), (0, 1, 2))
        self.assertEqual(knot(Standing(table.with_quick(1, 2), places)), (0, 1, 2))
        self.assertEqual(knot(Standing(table.with_quick(2, 0), places)), ())

    def test_a_long_chain_that_leads_to_a_free_hand(self):
        kinds = [((at, at + 1), 1) for at in range(5)]
        table = Table([1] * 6, [(at, at + 1) for at in range(5)], kinds)
        self.assertEqual(knot(Standing(table, ((1,),) * 5)), ())

    def test_is_the_union_of_all_knots(self):
        many = set()
        for model, standing in each_standing():
            knots = model.knots(standing.places)
            many.add(min(len(knots), 2))
            found = knot(standing)
            self.assertIsInstance(found, tuple)
            self.assertEqual(found, tuple(sorted(set().union(*knots))), standing.places)
        self.assertEqual(many, {0, 1, 2})


class NothingMoves(unittest.TestCase):
    def test_no_move_moves_a_dish_of_a_knot(self):
        """Later standings of the same tables are looked at, too, so this holds for whole runs."""
        tried = 0
        for model, standing in each_standing():
            people = knot(standing)
            held = [[standing.dishes(kind, person) for person in people] for kind in range(len(model.kinds))]
            for move in possible(standing):
                later = after(standing, move)
                self.assertLessEqual(set(people), set(knot(later)))
                tried += len(people)
                for kind, row in enumerate(held):
                    self.assertEqual([later.dishes(kind, person) for person in people], row)
        self.assertGreater(tried, 0)

    def test_who_is_full_and_never_moves_again_is_in_the_knot(self):
        for model, standing in each_standing():
            if not list(possible(standing, enters=False)):
                people = [person for person in standing.full()]
                self.assertEqual(knot(standing), tuple(people))
                self.assertEqual(knot(standing) == (), standing.total == 0)


class Settling(unittest.TestCase):
    def test_first_possible_move_again_and_again(self):
        for model, standing in each_standing():
            places, expected = standing.places, []
            steps = model.steps(places, False)
            while steps:
                expected.append(steps[0][0])
                places = steps[0][1]
                steps = model.steps(places, False)
            run, settled = settle(standing)
            self.assertIsInstance(run, list)
            self.assertEqual((run, settled.places), (expected, places))
            self.assertIs(settled.table, standing.table)

    def test_run_leads_there_and_nothing_is_possible_there(self):
        for _, standing in each_standing():
            before = standing.places
            run, settled = settle(standing)
            self.assertEqual(play(standing, run).places, settled.places)
            self.assertEqual(list(possible(settled, enters=False)), [])
            self.assertEqual(standing.left - settled.left, sum(2 if move[0] == "swap" else 1 for move in run))
            self.assertEqual(standing.places, before)

    def test_becomes_empty_or_has_a_knot(self):
        empty = set()
        for _, standing in each_standing():
            settled = settle(standing)[1]
            self.assertEqual(settled.total == 0, knot(settled) == ())
            empty.add(settled.total == 0)
        self.assertEqual(empty, {True, False})

    def test_row(self):
        table = Table([1, 2, 1], [(0, 1), (1, 2)], [((0, 1, 2), 3), ((2, 1), 1)])
        run, settled = settle(Standing(table, ((1, 1), (0,))))
        self.assertEqual(run, [("pass", 0, 0), ("pass", 0, 1), ("pass", 0, 1)])
        self.assertEqual(settled.places, ((0, 0), (0,)))
        # Both dishes want 1, whose hands are full, and both of 1 want 2, who is full.
        run, settled = settle(Standing(table, ((1, 2), (1,))))
        self.assertEqual((run, settled.places), ([], ((1, 2), (1,))))

    def test_passes_come_ahead_of_swaps(self):
        kinds = [((0, 1, 2), 2), ((2, 1, 0), 2)]
        table = Table([1, 1, 1], [(0, 1), (1, 2)], kinds, quick=[(0, 1), (1, 2)])
        run, settled = settle(Standing(table, ((1, 0), (0, 1))))
        self.assertEqual((run, settled.places), ([("swap", 0, 0, 1, 1), ("pass", 0, 1)], ((0, 0), (0, 0))))
        wide = table.with_hands(0, 2)
        run, settled = settle(Standing(wide, ((1, 0), (0, 1))))
        self.assertEqual((run, settled.places), ([("pass", 1, 1), ("pass", 0, 0), ("pass", 0, 1)], ((0, 0), (0, 0))))

    def test_empty_standing(self):
        for table in small_tables():
            run, settled = settle(Standing.empty(table))
            self.assertEqual((run, settled.places), ([], Model(table).empty()))

    def test_nothing_is_possible(self):
        table = Table([1, 1], [(0, 1)], [((0, 1), 1), ((1, 0), 1)])
        self.assertEqual(settle(Standing(table, ((1,), (1,))))[0], [])
        self.assertEqual(settle(Standing(table, ((1,), (1,))))[1].places, ((1,), (1,)))

    def test_many_dishes(self):
        kinds = [((0, 1, 2, 3, 4, 5), 24), ((1, 2, 3, 4, 5), 24)]
        table = Table([4] * 6, [(at, at + 1) for at in range(5)], kinds)
        run, settled = settle(Standing(table, ((4, 2, 2, 2, 4), (2, 2, 2, 0))))
        self.assertEqual((len(run), settled.total), (20 + 8 + 6 + 4 + 4 + 8 + 6 + 4, 0))

    def test_what_is_returned_is_not_shared(self):
        table = Table([1, 1], [(0, 1)], [((0, 1), 1)])
        standing = Standing(table, ((1,),))
        settle(standing)[0].append("more")
        self.assertEqual(settle(standing)[0], [("pass", 0, 0)])

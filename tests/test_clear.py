import unittest

from fullhands.ground.table import Table
from fullhands.moves.clear import clearing, coming, dead_set
from fullhands.moves.knot import settle
from fullhands.moves.run import play, run_effort
from fullhands.moves.standing import Standing
from tests.model import Model, each_standing, small_tables
from tests.support import refused

TOO_GREAT = ("TooGreat", ("what", "dishes"))
RING = [(0, 1), (1, 2), (0, 2)]


def each_small_standing():
    for model, standing in each_standing():
        if standing.total <= 4:
            yield model, standing


class Clearing(unittest.TestCase):
    def check(self, standing, run):
        """The run is one of passes and swaps, and leads to the empty standing."""
        self.assertIsInstance(run, list)
        self.assertTrue(all(move[0] in ("pass", "swap") for move in run), run)
        self.assertEqual(play(standing, run).total, 0)

    def test_all_standings_of_small_tables(self):
        found = set()
        for model, standing in each_small_standing():
            doomed = model.empty() not in model.led_to(standing.places)
            run = clearing(standing)
            found.add(doomed)
            if doomed:
                self.assertIsNone(run, standing.places)
            else:
                self.check(standing, run)
        self.assertEqual(found, {True, False})

    def test_empty_standing(self):
        for table in small_tables():
            self.assertEqual(clearing(Standing.empty(table)), [])

    def test_only_moves_there_are(self):
        table = Table([1, 1, 1], [(0, 1), (1, 2)], [((0, 1, 2), 2)])
        run = [("pass", 0, 1), ("pass", 0, 0), ("pass", 0, 1)]
        self.assertEqual(clearing(Standing(table, ((1, 1),))), run)

    def test_only_by_a_swap(self):
        table = Table([1, 1], [(0, 1)], [((0, 1), 1), ((1, 0), 1)], quick=[(0, 1)])
        self.assertEqual(clearing(Standing(table, ((1,), (1,)))), [("swap", 0, 0, 1, 1)])
        self.assertIsNone(clearing(Standing(table.without_quick(0, 1), ((1,), (1,)))))

    def test_not_the_first_moves_that_are_possible(self):
        """Settling the standing would lead to a knot, and another order of passes empties it."""
        kinds = [((0, 1, 2), 1), ((3, 1, 0), 1), ((2, 1), 1)]
        table = Table([1, 1, 1, 1], [(0, 1), (1, 2), (1, 3)], kinds)
        standing = Standing(table, ((1, 0), (1, 0), (1,)))
        self.assertEqual(settle(standing)[1].places, ((0, 1), (1, 0), (1,)))
        self.assertIsNone(clearing(settle(standing)[1]))
        self.check(standing, clearing(standing))

    def test_what_is_returned_is_not_shared(self):
        table = Table([1, 1], [(0, 1)], [((0, 1), 1)])
        standing = Standing(table, ((1,),))
        clearing(standing).append("more")
        self.assertEqual(clearing(standing), [("pass", 0, 0)])
        self.assertEqual(standing.places, ((1,),))


class DeadSet(unittest.TestCase):
    def test_all_standings_of_small_tables(self):
        sizes = set()
        for model, standing in each_small_standing():
            led_to = model.led_to(standing.places)
            found = dead_set(standing)
            if model.empty() in led_to:
                self.assertIsNone(found, standing.places)
            else:
                self.assertIsInstance(found, list)
                self.assertEqual(found, sorted(led_to))
                sizes.add(min(len(found), 3))
        self.assertEqual(sizes, {1, 2, 3})

    def test_a_knot_beside_a_dish_that_moves(self):
        ties = [(0, 1), (1, 2), (2, 3)]
        table = Table([1, 1, 1, 1], ties, [((0, 1), 1), ((1, 0), 1), ((3, 2), 1)])
        self.assertEqual(dead_set(Standing(table, ((1,), (1,), (1,)))), [((1,), (1,), (0,)), ((1,), (1,), (1,))])
        self.assertIsNone(dead_set(Standing(table, ((1,), (0,), (1,)))))

    def test_doomed_ahead_of_a_knot(self):
        """Each dish is passed into the knot at once or waits for it."""
        kinds = [((0, 1, 2), 1), ((2, 1, 0), 1)]
        table = Table([1, 1, 1], [(0, 1), (1, 2)], kinds)
        first = ((1, 0), (1, 0))
        self.assertEqual(dead_set(Standing(table, first)), [((0, 1), (1, 0)), ((1, 0), (0, 1)), first])

    def test_empty_standing(self):
        for table in small_tables():
            self.assertIsNone(dead_set(Standing.empty(table)))

    def test_what_is_returned_is_not_shared(self):
        table = Table([1, 1], [(0, 1)], [((0, 1), 1), ((1, 0), 1)])
        standing = Standing(table, ((1,), (1,)))
        dead_set(standing).append("more")
        self.assertEqual(dead_set(standing), [((1,), (1,))])


class Coming(unittest.TestCase):
    def check(self, model, standing, run):
        """The run leads here from the empty standing, puts no dish down and has the effort of point 21."""
        self.assertIsInstance(run, list)
        later = play(Standing.empty(standing.table), run)
        self.assertEqual(later.places, standing.places)
        self.assertEqual(len([move for move in run if move[0] == "enter"]), standing.total)
        self.assertEqual(run_effort(run), standing.total + model.passes_behind(standing.places))

    def test_all_standings_of_small_tables(self):
        found = set()
        for table in small_tables():
            model = Model(table)
            reachable = model.led_to(model.empty(), enters=True)
            for places in model.all_places():
                standing = Standing(table, places)
                if standing.total <= 4:
                    run = coming(standing)
                    found.add(places in reachable)
                    if places in reachable:
                        self.check(model, standing, run)
                    else:
                        self.assertIsNone(run, places)
        self.assertEqual(found, {True, False})

    def test_empty_standing(self):
        for table in small_tables():
            self.assertEqual(coming(Standing.empty(table)), [])

    def test_only_run(self):
        table = Table([1, 1, 1], [(0, 1), (1, 2)], [((0, 1, 2), 2)])
        self.assertEqual(coming(Standing(table, ((1, 1),))), [("enter", 0), ("pass", 0, 0), ("enter", 0)])

    def test_all_hands_full_with_a_pass_behind_each_dish(self):
        """The last move would have been a pass, which leaves a hand free."""
        kinds = [((0, 1, 2), 1), ((1, 2, 0), 1), ((2, 0, 1), 1)]
        table = Table([1, 1, 1], RING, kinds)
        self.assertIsNone(coming(Standing(table, ((0, 1), (0, 1), (0, 1)))))
        enters = coming(Standing(table, ((1, 0), (1, 0), (1, 0))))
        self.assertEqual(sorted(enters), [("enter", 0), ("enter", 1), ("enter", 2)])
        self.assertIsNotNone(coming(Standing(table, ((1, 0), (0, 1), (0, 0)))))

    def test_only_by_a_swap(self):
        kinds = [((0, 1, 2), 1), ((1, 0, 2), 1)]
        table = Table([1, 1, 1], RING, kinds, quick=[(0, 1)])
        standing = Standing(table, ((0, 1), (0, 1)))
        run = coming(standing)
        self.assertEqual((sorted(run[:2]), run[2:]), ([("enter", 0), ("enter", 1)], [("swap", 0, 0, 1, 1)]))
        self.assertIsNone(coming(Standing(table.without_quick(0, 1), ((0, 1), (0, 1)))))

    def test_what_is_returned_is_not_shared(self):
        table = Table([1, 1], [(0, 1)], [((0, 1), 1)])
        standing = Standing(table, ((1,),))
        coming(standing).append("more")
        self.assertEqual(coming(standing), [("enter", 0)])


class ManyDishes(unittest.TestCase):
    CALLS = (clearing, dead_set, coming)

    def test_four_and_five(self):
        table = Table([4, 4, 1], [(0, 1), (1, 2)], [((0, 1, 2), 24), ((1, 0), 24)])
        for places in (((4, 0), (0,)), ((2, 2), (0,)), ((0, 4), (0,)), ((2, 0), (2,)), ((0, 0), (4,))):
            for call in self.CALLS:
                self.assertIsNone(refused(call, Standing(table, places)), places)
        for places in (((4, 1), (0,)), ((1, 4), (0,)), ((4, 0), (1,)), ((1, 0), (4,)), ((4, 4), (0,)), ((4, 0), (4,))):
            for call in self.CALLS:
                self.assertEqual(refused(call, Standing(table, places)), TOO_GREAT, places)

    def test_only_dishes_in_the_standing_count(self):
        """Mosts and hands for many more dishes do not matter."""
        table = Table([4, 4], [(0, 1)], [((0, 1), 24), ((1, 0), 24)])
        standing = Standing(table, ((2,), (2,)))
        self.assertEqual((len(clearing(standing)), dead_set(standing), len(coming(standing))), (4, None, 4))

    def test_four_dishes_in_a_great_table(self):
        ties = [(one, other) for other in range(6) for one in range(other)]
        kinds = [((0, 1, 2, 3, 4, 5), 4), ((5, 4, 3, 2, 1, 0), 4), ((2, 0, 4, 1, 3, 5), 4), ((3, 5, 0, 2, 4, 1), 4)]
        table = Table([1] * 6, ties, kinds, quick=[(0, 1), (2, 3)])
        standing = Standing(table, ((0, 0, 1, 0, 0), (0, 0, 1, 0, 0), (0, 1, 0, 0, 0), (0, 1, 0, 0, 0)))
        self.assertEqual(play(standing, clearing(standing)).total, 0)
        self.assertEqual(play(Standing.empty(table), coming(standing)).places, standing.places)
        self.assertIsNone(dead_set(standing))

import unittest

from fullhands.ground.table import Table
from fullhands.moves.standing import Standing
from fullhands.moves.step import after, back, possible
from tests.model import Model, each_standing, small_tables
from tests.support import cannot_move, refused


def moves(standing, **more):
    return list(possible(standing, **more))


class AgainstTheModel(unittest.TestCase):
    """All standings of small tables."""

    def test_reasons_and_standings_after(self):
        for model, standing in each_standing():
            before = standing.places
            for move in model.all_moves():
                reason = model.reason(before, move)
                if reason is None:
                    later = after(standing, move)
                    self.assertIs(later.table, standing.table)
                    self.assertEqual(later.places, model.after(before, move))
                else:
                    self.assertEqual(refused(after, standing, move), cannot_move(reason), (before, move))
            self.assertEqual(standing.places, before)

    def test_possible(self):
        for model, standing in each_standing():
            expected = [move for move in model.all_moves() if model.reason(standing.places, move) is None]
            self.assertEqual(moves(standing), expected)
            self.assertEqual(moves(standing, enters=True), expected)
            without = [move for move in expected if move[0] != "enter"]
            self.assertEqual(moves(standing, enters=False), without)

    def test_back(self):
        for table in small_tables():
            model = Model(table)
            leading = {places: [] for places in model.all_places()}
            for move in model.all_moves():
                for places in leading:
                    if model.reason(places, move) is None:
                        later = model.after(places, move)
                        if len(model.dishes(later)) == len(model.dishes(places)) + (move[0] == "enter"):
                            leading[later].append((move, places))
            for places, expected in leading.items():
                found = [(move, earlier.places) for move, earlier in back(Standing(table, places))]
                self.assertEqual(found, expected)

    def test_every_back_move_leads_back(self):
        for _, standing in each_standing():
            for move, earlier in back(standing):
                self.assertIs(earlier.table, standing.table)
                later = after(earlier, move)
                self.assertEqual(later.places, standing.places)
                self.assertEqual(later.total, earlier.total + (move[0] == "enter"))

    def test_without_duplicates(self):
        for _, standing in each_standing():
            found = moves(standing)
            self.assertEqual(len(set(found)), len(found))
            taken = [move for move, _ in back(standing)]
            self.assertEqual(len(set(taken)), len(taken))


class Enters(unittest.TestCase):
    def setUp(self):
        self.table = Table([2, 3, 1], [(0, 1), (1, 2)], [((0, 1, 2), 3), ((1, 0), 2), ((0, 1), 2), ((2, 1), 0)],
                           shares=[((1, 2), 2)])

    def standing(self, *places):
        return Standing(self.table, places)

    def test_can_be_made(self):
        standing = Standing.empty(self.table)
        for kind in range(3):
            places = after(standing, ("enter", kind)).places
            expected = [[0, 0], [0], [0], [0]]
            expected[kind][0] = 1
            self.assertEqual(places, tuple([tuple(row) for row in expected]))
        self.assertEqual(standing.places, ((0, 0), (0,), (0,), (0,)))

    def test_reasons(self):
        full = self.standing((2, 1), (1,), (0,), (0,))
        for kind in (4, -1, 10 ** 40, -10 ** 40, -4):
            self.assertEqual(refused(after, full, ("enter", kind)), cannot_move("unknown"))
        self.assertEqual(refused(after, full, ("enter", 0)), cannot_move("most"))
        self.assertEqual(refused(after, full, ("enter", 3)), cannot_move("most"))
        self.assertEqual(refused(after, full, ("enter", 2)), cannot_move("hands"))
        shared = self.standing((1, 0), (1,), (1,), (0,))
        self.assertEqual(refused(after, shared, ("enter", 1)), cannot_move("share"))
        self.assertEqual(refused(after, shared, ("enter", 2)), cannot_move("share"))
        self.assertEqual(refused(after, shared, ("enter", 0)), cannot_move("hands"))
        self.assertEqual(refused(after, self.standing((0, 0), (0,), (2,), (0,)), ("enter", 2)), cannot_move("most"))

    def test_the_other_people_may_be_full(self):
        standing = self.standing((0, 1), (2,), (0,), (0,))
        self.assertEqual(standing.full(), (1,))
        self.assertEqual(after(standing, ("enter", 0)).places, ((1, 1), (2,), (0,), (0,)))


class Passes(unittest.TestCase):
    def setUp(self):
        self.table = Table([2, 1, 1], [(0, 1), (1, 2)], [((0, 1, 2), 3), ((2, 1), 1), ((1, 0), 1)])

    def standing(self, *places):
        return Standing(self.table, places)

    def test_to_the_next_person(self):
        self.assertEqual(after(self.standing((2, 0), (0,), (0,)), ("pass", 0, 0)).places, ((1, 1), (0,), (0,)))

    def test_to_the_end(self):
        standing = self.standing((1, 1), (0,), (0,))
        later = after(standing, ("pass", 0, 1))
        self.assertEqual(later.places, ((1, 0), (0,), (0,)))
        self.assertEqual([later.held(person) for person in range(3)], [1, 0, 0])

    def test_the_end_needs_a_free_hand(self):
        standing = self.standing((0, 1), (1,), (0,))
        self.assertEqual(refused(after, standing, ("pass", 0, 1)), cannot_move("hands"))
        self.assertEqual(refused(after, standing, ("pass", 1, 2)), cannot_move("hands"))

    def test_the_next_person_needs_a_free_hand(self):
        standing = self.standing((1, 0), (0,), (1,))
        self.assertEqual(refused(after, standing, ("pass", 0, 0)), cannot_move("hands"))

    def test_reasons(self):
        standing = self.standing((1, 0), (0,), (1,))
        for kind, person in ((3, 0), (-1, 0), (10 ** 40, 0), (0, 3), (0, -1), (0, 10 ** 40), (9, 9), (-3, -3)):
            self.assertEqual(refused(after, standing, ("pass", kind, person)), cannot_move("unknown"))
        # No dish there, the end of the way, off the way.
        for kind, person in ((0, 1), (0, 2), (1, 2), (1, 1), (1, 0), (2, 0), (2, 2)):
            self.assertEqual(refused(after, standing, ("pass", kind, person)), cannot_move("none"))

    def test_none_comes_ahead_of_hands(self):
        standing = self.standing((0, 0), (0,), (1,))
        self.assertEqual(refused(after, standing, ("pass", 0, 0)), cannot_move("none"))


class Swaps(unittest.TestCase):
    def setUp(self):
        kinds = [((0, 1, 2), 2), ((2, 1, 0), 2), ((1, 0), 2), ((0, 1), 1)]
        self.table = Table([1, 2, 1], [(0, 1), (1, 2)], kinds, quick=[(0, 1)])
        self.standing = Standing(self.table, ((1, 1), (0, 1), (0,), (0,)))

    def test_without_a_free_hand(self):
        self.assertEqual(self.standing.full(), (0, 1))
        later = after(self.standing, ("swap", 0, 0, 1, 1))
        self.assertEqual(later.places, ((0, 2), (0, 0), (0,), (0,)))
        self.assertEqual((later.total, self.standing.places), (2, ((1, 1), (0, 1), (0,), (0,))))

    def test_both_ends(self):
        standing = Standing(self.table, ((0, 0), (0, 0), (1,), (1,)))
        self.assertEqual(after(standing, ("swap", 3, 0, 2, 1)).places, ((0, 0), (0, 0), (0,), (0,)))

    def test_none_at_its_end(self):
        kinds = [((0, 1, 2), 1), ((2, 1, 0, 3), 1)]
        table = Table([1, 1, 1, 1], [(0, 1), (1, 2), (0, 3)], kinds, quick=[(1, 0)])
        standing = Standing(table, ((1, 0), (0, 1, 0)))
        self.assertEqual(after(standing, ("swap", 0, 0, 1, 1)).places, ((0, 1), (0, 0, 1)))

    def test_reasons(self):
        wrong = [(4, 0, 1, 1), (-1, 0, 1, 1), (0, 0, 4, 1), (0, 0, -1, 1), (0, -1, 1, 1), (0, 0, 1, 3), (0, 3, 1, 1),
                 (0, 0, 1, -1), (0, 0, 1, 10 ** 40), (10 ** 40, 0, 1, 1), (1, 1, 0, 0), (0, 0, 1, 0), (0, 1, 1, 1),
                 (0, 2, 1, 1)]
        for numbers in wrong:
            self.assertEqual(refused(after, self.standing, ("swap",) + numbers), cannot_move("unknown"), numbers)
        for numbers in ((0, 1, 1, 2), (0, 0, 1, 2), (3, 0, 3, 2)):
            self.assertEqual(refused(after, self.standing, ("swap",) + numbers), cannot_move("tie"), numbers)
        for numbers in ((3, 0, 1, 1), (0, 0, 2, 1), (0, 0, 0, 1), (1, 0, 1, 1), (1, 0, 0, 1), (2, 0, 2, 1)):
            self.assertEqual(refused(after, self.standing, ("swap",) + numbers), cannot_move("none"), numbers)

    def test_a_dish_that_wants_somebody_else(self):
        kinds = [((0, 1), 1), ((1, 2), 1)]
        table = Table([1, 1, 1], [(0, 1), (1, 2)], kinds, quick=[(0, 1), (1, 2)])
        standing = Standing(table, ((1,), (1,)))
        self.assertEqual(refused(after, standing, ("swap", 0, 0, 1, 1)), cannot_move("none"))
        self.assertEqual(moves(standing), [("pass", 1, 1)])
        self.assertEqual(list(possible(standing, enters=False)), [("pass", 1, 1)])

    def test_not_over_a_slow_tie(self):
        slow = self.table.without_quick(0, 1)
        standing = Standing(slow, self.standing.places)
        self.assertEqual(refused(after, standing, ("swap", 0, 0, 1, 1)), cannot_move("tie"))
        self.assertNotIn(("swap", 0, 0, 1, 1), moves(standing))


class Possible(unittest.TestCase):
    def test_order(self):
        kinds = [((2, 1, 0), 4), ((0, 1, 2), 4), ((1, 0), 4), ((1, 2), 4)]
        table = Table([2, 4, 2], [(0, 1), (1, 2)], kinds, quick=[(0, 1), (1, 2)])
        standing = Standing(table, ((1, 1), (1, 1), (1,), (0,)))
        self.assertEqual(moves(standing), [
            ("enter", 0), ("enter", 1), ("enter", 2), ("enter", 3),
            ("pass", 0, 2), ("pass", 0, 1), ("pass", 1, 0), ("pass", 1, 1), ("pass", 2, 1),
            ("swap", 1, 0, 0, 1), ("swap", 1, 0, 2, 1), ("swap", 1, 1, 0, 2),
        ])
        self.assertEqual(moves(standing, enters=False), moves(standing)[4:])

    def test_swaps_are_ordered_by_their_kinds_ahead_of_their_people(self):
        kinds = [((1, 2), 1), ((2, 1, 0), 2), ((0, 1, 2), 2)]
        table = Table([1, 3, 1], [(0, 1), (1, 2)], kinds, quick=[(0, 1), (1, 2)])
        standing = Standing(table, ((1,), (1, 1), (1, 1)))
        swaps = [("swap", 0, 1, 1, 2), ("swap", 2, 0, 1, 1), ("swap", 2, 1, 1, 2)]
        self.assertEqual(moves(standing, enters=False), swaps)

    def test_enters_is_passed_by_keyword_only(self):
        with self.assertRaises(TypeError):
            list(possible(Standing.empty(Table([1], [], [])), False))

    def test_several_dishes_of_a_kind_make_one_move(self):
        table = Table([3, 3], [(0, 1)], [((0, 1), 3), ((1, 0), 3)], quick=[(0, 1)])
        standing = Standing(table, ((2,), (2,)))
        self.assertEqual(moves(standing, enters=False), [("pass", 0, 0), ("pass", 1, 1), ("swap", 0, 0, 1, 1)])

    def test_nothing_is_possible(self):
        self.assertEqual(moves(Standing.empty(Table([1], [], []))), [])
        table = Table([1, 1], [(0, 1)], [((0, 1), 1), ((1, 0), 1)])
        self.assertEqual(moves(Standing(table, ((1,), (1,)))), [])


class Back(unittest.TestCase):
    def test_order(self):
        kinds = [((2, 1, 0), 4), ((0, 1, 2), 4), ((1, 0), 4), ((1, 2), 4)]
        table = Table([2, 4, 2], [(0, 1), (1, 2)], kinds, quick=[(0, 1), (1, 2)])
        standing = Standing(table, ((1, 1), (1, 1), (1,), (0,)))
        found = [(move, earlier.places) for move, earlier in back(standing)]
        self.assertEqual(found, [
            (("enter", 0), ((0, 1), (1, 1), (1,), (0,))),
            (("enter", 1), ((1, 1), (0, 1), (1,), (0,))),
            (("enter", 2), ((1, 1), (1, 1), (0,), (0,))),
            (("pass", 0, 2), ((2, 0), (1, 1), (1,), (0,))),
            (("pass", 1, 0), ((1, 1), (2, 0), (1,), (0,))),
        ])

    def test_swaps(self):
        kinds = [((0, 1, 2), 1), ((2, 1, 0, 3), 1), ((4, 1, 0, 3), 1)]
        table = Table([2, 1, 1, 1, 1], [(0, 1), (1, 2), (0, 3), (1, 4)], kinds, quick=[(0, 1)])
        standing = Standing(table, ((0, 1), (0, 0, 1), (0, 0, 1)))
        found = [(move, earlier.places) for move, earlier in back(standing)]
        self.assertEqual(found, [
            (("swap", 0, 0, 1, 1), ((1, 0), (0, 1, 0), (0, 0, 1))),
            (("swap", 0, 0, 2, 1), ((1, 0), (0, 0, 1), (0, 1, 0))),
        ])

    def test_swaps_are_ordered_by_their_kinds_ahead_of_their_people(self):
        kinds = [((1, 2, 3), 1), ((3, 2, 1, 0, 4), 2), ((0, 1, 2), 1)]
        ties = [(0, 1), (1, 2), (2, 3), (0, 4)]
        table = Table([1, 2, 1, 1, 1], ties, kinds, quick=[(0, 1), (1, 2)])
        standing = Standing(table, ((0, 1), (0, 0, 1, 1), (0, 1)))
        found = [(move, earlier.places) for move, earlier in back(standing)]
        self.assertEqual(found, [
            (("swap", 0, 1, 1, 2), ((1, 0), (0, 1, 0, 1), (0, 1))),
            (("swap", 2, 0, 1, 1), ((0, 1), (0, 0, 2, 0), (1, 0))),
        ])

    def test_who_passed_needs_a_free_hand(self):
        table = Table([1, 1, 1], [(0, 1), (1, 2)], [((0, 1, 2), 2)])
        standing = Standing(table, ((1, 1),))
        self.assertEqual([move for move, _ in back(standing)], [("enter", 0)])
        self.assertEqual([move for move, _ in back(Standing(table, ((0, 1),)))], [("pass", 0, 0)])

    def test_a_bound_that_is_reached_does_not_matter(self):
        table = Table([2, 1, 1], [(0, 1), (1, 2)], [((0, 1, 2), 2)], shares=[((0,), 2)])
        standing = Standing(table, ((1, 1),))
        self.assertEqual([move for move, _ in back(standing)], [("enter", 0), ("pass", 0, 0)])

    def test_empty_standing(self):
        for table in small_tables():
            self.assertEqual(list(back(Standing.empty(table))), [])


class Generators(unittest.TestCase):
    def test_they_are_generators(self):
        table = Table([1, 1], [(0, 1)], [((0, 1), 1)])
        standing = Standing(table, ((1,),))
        for generator in (possible(standing), back(standing)):
            self.assertIs(iter(generator), generator)
            next(generator)
            self.assertEqual(list(generator), [])

    def test_they_do_not_disturb_each_other(self):
        table = Table([2, 2], [(0, 1)], [((0, 1), 2), ((1, 0), 2)])
        standing = Standing(table, ((1,), (1,)))
        one, other = possible(standing), possible(standing)
        found = list(zip(one, other))
        self.assertEqual(found, [(move, move) for move in moves(standing)])


class Examples(unittest.TestCase):
    """The examples that the interface prints for runs, one move after another."""

    def setUp(self):
        self.standing = Standing.empty(Table([1, 2, 1], [(0, 1), (1, 2)], [((0, 1, 2), 3), ((2, 1), 1)]))

    def test_run(self):
        standing = self.standing
        for move in (("enter", 0), ("pass", 0, 0), ("enter", 0), ("enter", 1)):
            standing = after(standing, move)
        self.assertEqual(standing.places, ((1, 1), (1,)))

    def test_run_that_cannot_be_made(self):
        standing = after(after(self.standing, ("enter", 0)), ("enter", 1))
        self.assertEqual(refused(after, standing, ("enter", 0)), cannot_move("hands"))
